/- Layer 3: who is ahead of whom; an order that holds but at one place. Plain theorems. -/
import Derived.Test.YtncoeoccdimgoaaGrid
namespace Go.Proofs.Ytncoeoccdimgoaa
open Go.RowKit
set_option linter.unusedVariables false
abbrev Mem := Nat × Int
def hlt (x y : Mem) : Prop := x.2 < y.2 ∨ (x.2 = y.2 ∧ x.1 < y.1)
instance (x y : Mem) : Decidable (hlt x y) := by unfold hlt; infer_instance
theorem hlt_trans {x y z : Mem} (h : ¬ hlt y x) (k : ¬ hlt z y) : ¬ hlt z x := by unfold hlt at *; omega
theorem hlt_asym {x y : Mem} (h : hlt x y) : ¬ hlt y x := by unfold hlt at *; omega
theorem hlt_irr (x : Mem) : ¬ hlt x x := by unfold hlt; omega
theorem hlt_eq {x y : Mem} (h : ¬ hlt x y) (k : ¬ hlt y x) : x = y := by
  obtain ⟨a, b⟩ := x
  obtain ⟨c, d⟩ := y
  unfold hlt at *; dsimp only at h k
  have h1 : b = d := by omega
  have h2 : a = c := by omega
  rw [h1, h2]
def par (i : Nat) : Nat := (i - 1) / 2
theorem par_lt {i : Nat} (h : 0 < i) : par i < i := by unfold par; omega
def updm (a : Nat → Mem) (p : Nat) (x : Mem) : Nat → Mem := fun i => if i = p then x else a i
theorem updm_self (a : Nat → Mem) (p : Nat) (x : Mem) : updm a p x p = x := by simp [updm]
theorem updm_ne (a : Nat → Mem) {p i : Nat} (x : Mem) (h : i ≠ p) : updm a p x i = a i := by simp [updm, h]
def sw (a : Nat → Mem) (i j : Nat) : Nat → Mem := updm (updm a i (a j)) j (a i)
theorem sw_l (a : Nat → Mem) (i j : Nat) : sw a i j i = a j := by
  unfold sw
  by_cases h : i = j
  · subst h; rw [updm_self]
  · rw [updm_ne _ _ h, updm_self]
theorem sw_r (a : Nat → Mem) (i j : Nat) : sw a i j j = a i := by unfold sw; rw [updm_self]
theorem sw_ne (a : Nat → Mem) {i j x : Nat} (h : x ≠ i) (k : x ≠ j) : sw a i j x = a x := by unfold sw; rw [updm_ne _ _ k, updm_ne _ _ h]
/-- Each stands behind the one ahead of it. -/
def Hp (a : Nat → Mem) (k : Nat) : Prop := ∀ i, 0 < i → i < k → ¬ hlt (a i) (a (par i))
/-- The same, but for one place, and those behind it. -/
structure Up (a : Nat → Mem) (k p : Nat) : Prop where
  e : ∀ i, 0 < i → i < k → i ≠ p → par i ≠ p → ¬ hlt (a i) (a (par i))
  c : 0 < p → ∀ i, 0 < i → i < k → par i = p → ¬ hlt (a i) (a (par p))
/-- The same, but for those behind one place. -/
structure Dn (a : Nat → Mem) (k p : Nat) : Prop where
  e : ∀ i, 0 < i → i < k → par i ≠ p → ¬ hlt (a i) (a (par i))
  c : 0 < p → ∀ i, 0 < i → i < k → par i = p → ¬ hlt (a i) (a (par p))
theorem Up.stop {a : Nat → Mem} {k p : Nat} (h : Up a k p) (hs : p = 0 ∨ ¬ hlt (a p) (a (par p))) : Dn a k p := by
  refine ⟨fun i h0 hk hp => ?_, h.c⟩
  by_cases e : i = p
  · subst e
    rcases hs with hs | hs
    · omega
    · exact hs
  · exact h.e i h0 hk e hp
theorem Up.step {a : Nat → Mem} {k p : Nat} (h : Up a k p) (hp : 0 < p) (hpk : p < k) (hl : hlt (a p) (a (par p))) : Up (sw a p (par p)) k (par p) := by
  have hq := par_lt hp
  refine ⟨fun i h0 hk hne hpa => ?_, fun hq0 i h0 hk hpi => ?_⟩
  · -- neither the place itself, nor behind it
    by_cases e : i = p
    · subst e; exact absurd rfl hpa
    · rw [sw_ne a e hne]
      by_cases e2 : par i = p
      · rw [e2, sw_l]; exact h.c hp i h0 hk e2
      · rw [sw_ne a e2 hpa]; exact h.e i h0 hk e e2
  · have hqq := par_lt hq0
    rw [sw_ne a (show par (par p) ≠ p by omega) (show par (par p) ≠ par p by omega)]
    have hedge : ¬ hlt (a (par p)) (a (par (par p))) := h.e (par p) hq0 (by omega) (by omega) (by omega)
    by_cases e : i = p
    · subst e; rw [sw_l]; exact hedge
    · have hi := par_lt h0
      rw [sw_ne a e (by omega)]
      have h2 := h.e i h0 hk e (by omega)
      rw [hpi] at h2
      exact hlt_trans hedge h2
theorem Dn.stop {a : Nat → Mem} {k p : Nat} (h : Dn a k p) (hs : ∀ i, 0 < i → i < k → par i = p → ¬ hlt (a i) (a p)) : Hp a k := by
  intro i h0 hk
  by_cases e : par i = p
  · rw [e]; exact hs i h0 hk e
  · exact h.e i h0 hk e
theorem Dn.step {a : Nat → Mem} {k p f : Nat} (h : Dn a k p) (h0 : 0 < f) (hf : f < k) (hpf : par f = p) (hl : hlt (a f) (a p)) (hm : ∀ i, 0 < i → i < k → par i = p → ¬ hlt (a i) (a f)) : Dn (sw a p f) k f := by
  have hlt' := par_lt h0
  have hne : p ≠ f := by omega
  refine ⟨fun i i0 ik hpi => ?_, fun _ i i0 ik hpi => ?_⟩
  · have hi := par_lt i0
    by_cases e : i = f
    · subst e; rw [hpf, sw_r, sw_l]; exact hlt_asym hl
    · by_cases e2 : i = p
      · subst e2; rw [sw_l, sw_ne a (show par i ≠ i by omega) (show par i ≠ f by omega)]
        exact h.c i0 f h0 hf hpf
      · rw [sw_ne a e2 e]
        by_cases e3 : par i = p
        · rw [e3, sw_l]; exact hm i i0 ik e3
        · rw [sw_ne a e3 hpi]; exact h.e i i0 ik e3
  · have hi := par_lt i0
    rw [hpf, sw_l, sw_ne a (show i ≠ p by omega) (show i ≠ f by omega)]
    have := h.e i i0 ik (by omega)
    rw [hpi] at this; exact this
theorem Hp.upd {a : Nat → Mem} {k p : Nat} (h : Hp a k) (hp : p < k) (x : Mem) : Up (updm a p x) k p := by
  refine ⟨fun i h0 hk e1 e2 => ?_, fun p0 i h0 hk e => ?_⟩
  · rw [updm_ne _ _ e1, updm_ne _ _ e2]; exact h i h0 hk
  · have := par_lt p0
    have := par_lt h0
    rw [updm_ne _ _ (show i ≠ p by omega), updm_ne _ _ (show par p ≠ p by omega)]
    have h1 := h i h0 hk
    rw [e] at h1
    exact hlt_trans (h p p0 hp) h1
theorem Hp.new {a : Nat → Mem} {k : Nat} (h : Hp a k) (x : Mem) : Up (updm a k x) (k + 1) k := by
  refine ⟨fun i h0 hk e1 e2 => ?_, fun p0 i h0 hk e => ?_⟩
  · rw [updm_ne _ _ e1, updm_ne _ _ e2]; exact h i h0 (by omega)
  · have := par_lt h0; omega
theorem Hp.less {a : Nat → Mem} {k m : Nat} (h : Hp a k) (hm : m ≤ k) : Hp a m := fun i h0 hk => h i h0 (by omega)
theorem Hp.first {a : Nat → Mem} {k : Nat} (h : Hp a k) : ∀ i, i < k → ¬ hlt (a i) (a 0) := by
  intro i
  induction i using Nat.strongRecOn with
  | ind i ih =>
    intro hk
    by_cases h0 : i = 0
    · subst h0; exact hlt_irr _
    · have := par_lt (show 0 < i by omega)
      exact hlt_trans (ih (par i) this (by omega)) (h i (by omega) hk)
/-! ### Who is a member -/
abbrev HM := Nat → Option Int
def HM.put (M : HM) (id : Nat) (x : Int) : HM := fun j => if j = id then some x else M j
def HM.del (M : HM) (id : Nat) : HM := fun j => if j = id then none else M j
def HM.cnt (M : HM) : Nat → Nat
  | 0 => 0
  | n + 1 => HM.cnt M n + (if (M n).isSome = true then 1 else 0)
theorem HM.cnt_le (M : HM) : ∀ n, M.cnt n ≤ n
  | 0 => Nat.le_refl _
  | n + 1 => by have := HM.cnt_le M n; simp only [HM.cnt]; split <;> omega
theorem HM.cnt_like {M N : HM} : ∀ n, (∀ i, i < n → (M i).isSome = (N i).isSome) → M.cnt n = N.cnt n
  | 0, _ => rfl
  | n + 1, h => by simp only [HM.cnt]; rw [HM.cnt_like n fun i hi => h i (by omega), h n (by omega)]
theorem HM.cnt_new {M : HM} {id : Nat} (x : Int) (hn : M id = none) : ∀ n, (M.put id x).cnt n = M.cnt n + (if id < n then 1 else 0)
  | 0 => by simp [HM.cnt]
  | n + 1 => by
    simp only [HM.cnt]
    rw [HM.cnt_new x hn n]
    by_cases e : n = id
    · subst e; simp [HM.put, hn]
    · have : (M.put id x n) = M n := by simp [HM.put, e]
      rw [this]
      by_cases h : id < n
      · rw [if_pos h, if_pos (show id < n + 1 by omega)]; omega
      · rw [if_neg h, if_neg (show ¬ id < n + 1 by omega), Nat.add_zero, Nat.add_zero]
theorem HM.cnt_old {M : HM} {id : Nat} (x : Int) (hn : (M id).isSome = true) (n : Nat) : (M.put id x).cnt n = M.cnt n :=
  HM.cnt_like n fun i hi => by
    by_cases e : i = id
    · subst e; simp [HM.put, hn]
    · simp [HM.put, e]
theorem HM.cnt_del {M : HM} {id : Nat} (hn : (M id).isSome = true) : ∀ n, (M.del id).cnt n + (if id < n then 1 else 0) = M.cnt n
  | 0 => by simp [HM.cnt]
  | n + 1 => by
    simp only [HM.cnt]
    have ih := HM.cnt_del hn n
    by_cases e : n = id
    · subst e; simp [HM.del, hn] at *; omega
    · have : (M.del id n) = M n := by simp [HM.del, e]
      rw [this]
      by_cases h : id < n
      · rw [if_pos h] at ih; rw [if_pos (show id < n + 1 by omega)]; omega
      · rw [if_neg h] at ih; rw [if_neg (show ¬ id < n + 1 by omega)]; omega
theorem HM.cnt_zero {M : HM} : ∀ n, M.cnt n = 0 → ∀ i, i < n → M i = none
  | 0, _, i, h => by omega
  | n + 1, h, i, hi => by
    simp only [HM.cnt] at h
    by_cases e : i = n
    · subst e
      cases hm : M i with
      | none => rfl
      | some x => rw [hm] at h; simp at h
    · exact HM.cnt_zero n (by omega) i (by omega)
theorem HM.cnt_none (n : Nat) : HM.cnt (fun _ => none) n = 0 := by
  induction n with
  | zero => rfl
  | succ n ih => simp [HM.cnt, ih]
/-- Where each stands. -/
structure PL (n : Nat) (a : Nat → Mem) (k : Nat) (pl : Nat → Int) : Prop where
  at' : ∀ i, i < k → (a i).1 < n ∧ pl (a i).1 = (i : Int)
  no : ∀ id, id < n → pl id = -1 ∨ ∃ i, i < k ∧ pl id = (i : Int) ∧ (a i).1 = id
def updp (pl : Nat → Int) (id : Nat) (v : Int) : Nat → Int := fun j => if j = id then v else pl j
theorem PL.inj {n k : Nat} {a : Nat → Mem} {pl : Nat → Int} (h : PL n a k pl) {i j : Nat} (hi : i < k) (hj : j < k) (e : (a i).1 = (a j).1) : i = j := by
  have h1 := (h.at' i hi).2
  have h2 := (h.at' j hj).2
  rw [e, h2] at h1; omega
theorem PL.sw {n k : Nat} {a : Nat → Mem} {pl : Nat → Int} (h : PL n a k pl) {i j : Nat} (hi : i < k) (hj : j < k) : PL n (sw a i j) k (updp (updp pl (a j).1 i) (a i).1 j) := by
  have h1 := h.at' i hi
  have h2 := h.at' j hj
  refine ⟨fun x hx => ?_, fun id hid => ?_⟩
  · by_cases e2 : x = j
    · subst e2; rw [sw_r]; exact ⟨h1.1, by simp [updp]⟩
    · by_cases e1 : x = i
      · subst e1; rw [sw_l]
        exact ⟨h2.1, by
          have : (a j).1 ≠ (a x).1 := fun e => e2 (h.inj hj hi e).symm
          simp [updp, this]⟩
      · rw [sw_ne a e1 e2]
        have h3 := h.at' x hx
        have n1 : (a x).1 ≠ (a i).1 := fun e => e1 (h.inj hx hi e)
        have n2 : (a x).1 ≠ (a j).1 := fun e => e2 (h.inj hx hj e)
        exact ⟨h3.1, by simp [updp, n1, n2, h3.2]⟩
  · by_cases e1 : id = (a i).1
    · exact Or.inr ⟨j, hj, by simp [updp, e1], by rw [sw_r, e1]⟩
    · by_cases e2 : id = (a j).1
      · exact Or.inr ⟨i, hi, by simp only [updp]; rw [if_neg e1, if_pos e2], by rw [sw_l, e2]⟩
      · rcases h.no id hid with h3 | ⟨x, hx, h3, h4⟩
        · exact Or.inl (by simp [updp, e1, e2, h3])
        · exact Or.inr ⟨x, hx, by simp [updp, e1, e2, h3], by
            rw [sw_ne a (fun e => e1 (by rw [← h4, e])) (fun e => e2 (by rw [← h4, e]))]; exact h4⟩
theorem PL.new {n k : Nat} {a : Nat → Mem} {pl : Nat → Int} (h : PL n a k pl) {x : Mem} (hx : x.1 < n) (hn : pl x.1 = -1) : PL n (updm a k x) (k + 1) (updp pl x.1 k) := by
  refine ⟨fun i hi => ?_, fun id hid => ?_⟩
  · by_cases e : i = k
    · subst e; rw [updm_self]; exact ⟨hx, by simp [updp]⟩
    · rw [updm_ne _ _ e]
      have h1 := h.at' i (by omega)
      have : (a i).1 ≠ x.1 := fun e2 => by rw [e2, hn] at h1; omega
      exact ⟨h1.1, by simp [updp, this, h1.2]⟩
  · by_cases e : id = x.1
    · exact Or.inr ⟨k, by omega, by simp [updp, e], by rw [updm_self, e]⟩
    · rcases h.no id hid with h3 | ⟨i, hi, h3, h4⟩
      · exact Or.inl (by simp [updp, e, h3])
      · exact Or.inr ⟨i, by omega, by simp [updp, e, h3], by rw [updm_ne _ _ (by omega)]; exact h4⟩
/-- Another key of the same one. -/
theorem PL.key {n k : Nat} {a : Nat → Mem} {pl : Nat → Int} (h : PL n a k pl) {p : Nat} (hp : p < k) {x : Mem} (hx : x.1 = (a p).1) : PL n (updm a p x) k (updp pl x.1 p) := by
  have h0 := h.at' p hp
  have e : updp pl x.1 p = pl := funext fun j => by
    by_cases e : j = x.1
    · simp only [updp]; rw [if_pos e, e, hx, h0.2]
    · simp [updp, e]
  rw [e]
  refine ⟨fun i hi => ?_, fun id hid => ?_⟩
  · by_cases e : i = p
    · subst e; rw [updm_self, hx]; exact h0
    · rw [updm_ne _ _ e]; exact h.at' i hi
  · rcases h.no id hid with h3 | ⟨i, hi, h3, h4⟩
    · exact Or.inl h3
    · refine Or.inr ⟨i, hi, h3, ?_⟩
      by_cases e : i = p
      · subst e; rw [updm_self, hx]; exact h4
      · rw [updm_ne _ _ e]; exact h4
/-- The hindmost one goes. -/
theorem PL.cut {n k : Nat} {a : Nat → Mem} {pl : Nat → Int} (h : PL n a (k + 1) pl) : PL n a k (updp pl (a k).1 (-1)) := by
  refine ⟨fun i hi => ?_, fun id hid => ?_⟩
  · have h1 := h.at' i (by omega)
    have : (a i).1 ≠ (a k).1 := fun e => by have := h.inj (show i < k + 1 by omega) (show k < k + 1 by omega) e; omega
    exact ⟨h1.1, by simp [updp, this, h1.2]⟩
  · by_cases e : id = (a k).1
    · exact Or.inl (by simp [updp, e])
    · rcases h.no id hid with h3 | ⟨i, hi, h3, h4⟩
      · exact Or.inl (by simp [updp, e, h3])
      · exact Or.inr ⟨i, by have : i ≠ k := fun e2 => e (by rw [← h4, e2]); omega, by simp [updp, e, h3], h4⟩
/-- One goes, the hindmost one comes in its place. -/
theorem PL.fill {n k : Nat} {a : Nat → Mem} {pl : Nat → Int} (h : PL n a (k + 1) pl) {p : Nat} (hp : p < k) : PL n (updm a p (a k)) k (updp (updp pl (a p).1 (-1)) (a k).1 p) := by
  have hk := h.at' k (by omega)
  have hpp := h.at' p (by omega)
  have hne : (a k).1 ≠ (a p).1 := fun e => by have := h.inj (show k < k + 1 by omega) (show p < k + 1 by omega) e; omega
  refine ⟨fun i hi => ?_, fun id hid => ?_⟩
  · by_cases e : i = p
    · subst e; rw [updm_self]; exact ⟨hk.1, by simp [updp]⟩
    · rw [updm_ne _ _ e]
      have h1 := h.at' i (by omega)
      have n1 : (a i).1 ≠ (a k).1 := fun e => by have := h.inj (show i < k + 1 by omega) (show k < k + 1 by omega) e; omega
      have n2 : (a i).1 ≠ (a p).1 := fun e2 => e (h.inj (show i < k + 1 by omega) (show p < k + 1 by omega) e2)
      exact ⟨h1.1, by simp [updp, n1, n2, h1.2]⟩
  · by_cases e : id = (a k).1
    · exact Or.inr ⟨p, hp, by simp [updp, e], by rw [updm_self, e]⟩
    · by_cases e2 : id = (a p).1
      · exact Or.inl (by simp [updp, e2, Ne.symm hne])
      · rcases h.no id hid with h3 | ⟨i, hi, h3, h4⟩
        · exact Or.inl (by simp [updp, e, e2, h3])
        · have n1 : i ≠ k := fun x => e (by rw [← h4, x])
          have n2 : i ≠ p := fun x => e2 (by rw [← h4, x])
          exact Or.inr ⟨i, by omega, by simp [updp, e, e2, h3], by rw [updm_ne _ _ n2]; exact h4⟩
/-- The members are those of a map. -/
def Of (a : Nat → Mem) (k : Nat) (M : HM) : Prop := ∀ id x, M id = some x ↔ ∃ i, i < k ∧ a i = (id, x)
theorem Of.sw {a : Nat → Mem} {k : Nat} {M : HM} (h : Of a k M) {i j : Nat} (hi : i < k) (hj : j < k) : Of (sw a i j) k M := by
  intro id x
  rw [h id x]
  refine ⟨fun ⟨q, hq, e⟩ => ?_, fun ⟨q, hq, e⟩ => ?_⟩
  · by_cases e1 : q = i
    · exact ⟨j, hj, by rw [sw_r, ← e1]; exact e⟩
    · by_cases e2 : q = j
      · exact ⟨i, hi, by rw [sw_l, ← e2]; exact e⟩
      · exact ⟨q, hq, by rw [sw_ne a e1 e2]; exact e⟩
  · by_cases e2 : q = j
    · subst e2; rw [sw_r] at e; exact ⟨i, hi, e⟩
    · by_cases e1 : q = i
      · subst e1; rw [sw_l] at e; exact ⟨j, hj, e⟩
      · rw [sw_ne a e1 e2] at e; exact ⟨q, hq, e⟩
theorem Of.new {a : Nat → Mem} {k : Nat} {M : HM} (h : Of a k M) {id : Nat} (x : Int) (hn : M id = none) : Of (updm a k (id, x)) (k + 1) (M.put id x) := by
  intro j y
  by_cases e : j = id
  · subst e
    constructor
    · intro hh; simp only [HM.put, if_pos] at hh; injection hh with hh; subst hh
      exact ⟨k, by omega, by rw [updm_self]⟩
    · rintro ⟨i, hi, e⟩
      by_cases e1 : i = k
      · subst e1; rw [updm_self] at e; injection e with _ e; simp [HM.put, e]
      · rw [updm_ne _ _ e1] at e
        have := (h j y).2 ⟨i, by omega, e⟩
        rw [hn] at this; cases this
  · simp only [HM.put, if_neg e]
    rw [h j y]
    constructor
    · rintro ⟨i, hi, e1⟩; exact ⟨i, by omega, by rw [updm_ne _ _ (by omega)]; exact e1⟩
    · rintro ⟨i, hi, e1⟩
      by_cases e2 : i = k
      · subst e2; rw [updm_self] at e1; injection e1 with e1 _; exact absurd e1.symm e
      · rw [updm_ne _ _ e2] at e1; exact ⟨i, by omega, e1⟩
theorem Of.key {a : Nat → Mem} {k n : Nat} {M : HM} {pl : Nat → Int} (h : Of a k M) (hp : PL n a k pl) {p : Nat} (hpk : p < k) (x : Int) : Of (updm a p ((a p).1, x)) k (M.put (a p).1 x) := by
  intro j y
  by_cases e : j = (a p).1
  · constructor
    · intro hh; simp only [HM.put, if_pos e] at hh; injection hh with hh; subst hh
      exact ⟨p, hpk, by rw [updm_self, e]⟩
    · rintro ⟨i, hi, e1⟩
      by_cases e2 : i = p
      · subst e2; rw [updm_self] at e1; injection e1 with _ e1; simp [HM.put, e, e1]
      · rw [updm_ne _ _ e2] at e1
        exact absurd (hp.inj hi hpk (by rw [e1]; exact e)) e2
  · simp only [HM.put, if_neg e]
    rw [h j y]
    constructor
    · rintro ⟨i, hi, e1⟩
      have : i ≠ p := fun e2 => e (by rw [← e2, e1])
      exact ⟨i, hi, by rw [updm_ne _ _ this]; exact e1⟩
    · rintro ⟨i, hi, e1⟩
      by_cases e2 : i = p
      · subst e2; rw [updm_self] at e1; injection e1 with e1 _; exact absurd e1.symm e
      · rw [updm_ne _ _ e2] at e1; exact ⟨i, hi, e1⟩
theorem Of.cut {a : Nat → Mem} {k n : Nat} {M : HM} {pl : Nat → Int} (h : Of a (k + 1) M) (hp : PL n a (k + 1) pl) : Of a k (M.del (a k).1) := by
  intro j y
  by_cases e : j = (a k).1
  · simp only [HM.del, if_pos e]
    refine ⟨fun h => (by cases h), fun ⟨i, hi, e1⟩ => ?_⟩
    have := hp.inj (show i < k + 1 by omega) (show k < k + 1 by omega) (by rw [e1]; exact e)
    omega
  · simp only [HM.del, if_neg e]
    rw [h j y]
    constructor
    · rintro ⟨i, hi, e1⟩
      have : i ≠ k := fun e2 => e (by rw [← e2, e1])
      exact ⟨i, by omega, e1⟩
    · rintro ⟨i, hi, e1⟩; exact ⟨i, by omega, e1⟩
theorem Of.fill {a : Nat → Mem} {k n : Nat} {M : HM} {pl : Nat → Int} (h : Of a (k + 1) M) (hp : PL n a (k + 1) pl) {p : Nat} (hpk : p < k) : Of (updm a p (a k)) k (M.del (a p).1) := by
  intro j y
  by_cases e : j = (a p).1
  · simp only [HM.del, if_pos e]
    refine ⟨fun h => (by cases h), fun ⟨i, hi, e1⟩ => ?_⟩
    by_cases e2 : i = p
    · subst e2; rw [updm_self] at e1
      have := hp.inj (show k < k + 1 by omega) (show i < k + 1 by omega) (by rw [e1]; exact e)
      omega
    · rw [updm_ne _ _ e2] at e1
      exact absurd (hp.inj (show i < k + 1 by omega) (show p < k + 1 by omega) (by rw [e1]; exact e)) e2
  · simp only [HM.del, if_neg e]
    rw [h j y]
    constructor
    · rintro ⟨i, hi, e1⟩
      have n1 : i ≠ p := fun e2 => e (by rw [← e2, e1])
      by_cases e2 : i = k
      · subst e2; exact ⟨p, hpk, by rw [updm_self]; exact e1⟩
      · exact ⟨i, by omega, by rw [updm_ne _ _ n1]; exact e1⟩
    · rintro ⟨i, hi, e1⟩
      by_cases e2 : i = p
      · subst e2; rw [updm_self] at e1; exact ⟨k, by omega, e1⟩
      · rw [updm_ne _ _ e2] at e1; exact ⟨i, by omega, e1⟩
/-- Who is first. -/
def FstP (M : HM) (id x f : Int) : Prop := ((∀ j, M j = none) ∧ id = 0 ∧ x = 0 ∧ f = 5) ∨ ∃ i : Nat, M i = some x ∧ (∀ j y, M j = some y → ¬ hlt (j, y) (i, x)) ∧ id = (i : Int) ∧ f = 0
theorem FstP.uniq {M : HM} {a x f b y g : Int} (h : FstP M a x f) (k : FstP M b y g) : a = b ∧ x = y ∧ f = g := by
  rcases h with ⟨h1, rfl, rfl, rfl⟩ | ⟨i, h1, h2, rfl, rfl⟩ <;> rcases k with ⟨k1, rfl, rfl, rfl⟩ | ⟨j, k1, k2, rfl, rfl⟩
  · exact ⟨rfl, rfl, rfl⟩
  · rw [h1] at k1; cases k1
  · rw [k1] at h1; cases h1
  · have e := hlt_eq (k2 _ _ h1) (h2 _ _ k1)
    injection e with e1 e2
    exact ⟨by rw [e1], e2, rfl⟩
theorem Of.first {a : Nat → Mem} {k : Nat} {M : HM} (h : Of a k M) (hh : Hp a k) (hk : 0 < k) : FstP M (a 0).1 (a 0).2 0 :=
  Or.inr ⟨(a 0).1, (h _ _).2 ⟨0, hk, rfl⟩, fun j y hj => by
    obtain ⟨i, hi, e⟩ := (h j y).1 hj
    rw [← e]; exact hh.first i hi, rfl, rfl⟩
theorem Of.none {a : Nat → Mem} {M : HM} (h : Of a 0 M) : ∀ j, M j = none := fun j => by
  cases hm : M j with
  | none => rfl
  | some x => obtain ⟨i, hi, _⟩ := (h j x).1 hm; omega
theorem fstP_ex (M : HM) : ∀ n, (∀ j, n ≤ j → M j = none) → ∃ a x f, FstP M a x f := by
  intro n
  induction n generalizing M with
  | zero => intro h; exact ⟨0, 0, 5, Or.inl ⟨fun j => h j (Nat.zero_le _), rfl, rfl, rfl⟩⟩
  | succ n ih =>
    intro h
    cases hm : M n with
    | none =>
      refine ih M fun j hj => ?_
      by_cases e : j = n
      · rw [e]; exact hm
      · exact h j (by omega)
    | some z =>
      obtain ⟨a, x, f, hf⟩ := ih (M.del n) fun j hj => by
        by_cases e : j = n
        · simp [HM.del, e]
        · simp only [HM.del, if_neg e]; exact h j (by omega)
      have key : ∀ j y, M j = some y → j = n ∧ y = z ∨ M.del n j = some y := fun j y hj => by
        by_cases e : j = n
        · subst e; rw [hm] at hj; injection hj with hj; exact Or.inl ⟨rfl, hj.symm⟩
        · right; simp only [HM.del, if_neg e]; exact hj
      rcases hf with ⟨h1, _⟩ | ⟨i, h1, h2, _⟩
      · refine ⟨n, z, 0, Or.inr ⟨n, hm, fun j y hj => ?_, rfl, rfl⟩⟩
        rcases key j y hj with ⟨rfl, rfl⟩ | h3
        · exact hlt_irr _
        · rw [h1] at h3; cases h3
      · have hi : M i = some x := by
          by_cases e : i = n
          · subst e; simp [HM.del] at h1
          · simpa only [HM.del, if_neg e] using h1
        by_cases e : hlt (n, z) (i, x)
        · refine ⟨n, z, 0, Or.inr ⟨n, hm, fun j y hj => ?_, rfl, rfl⟩⟩
          rcases key j y hj with ⟨rfl, rfl⟩ | h3
          · exact hlt_irr _
          · exact hlt_trans (hlt_asym e) (h2 j y h3)
        · refine ⟨i, x, 0, Or.inr ⟨i, hi, fun j y hj => ?_, rfl, rfl⟩⟩
          rcases key j y hj with ⟨rfl, rfl⟩ | h3
          · exact e
          · exact h2 j y h3
end Go.Proofs.Ytncoeoccdimgoaa
