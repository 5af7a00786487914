/- Layer 15: who is ready, as lists; a queue in memory. -/
import Derived.Test.YtdemhhmceiaohaaMore
namespace Go.Proofs.Ytdemhhmceiaohaa
open Go.RowKit
set_option linter.unusedVariables false
/-- Of each member its urgency; of each urgency who has it, as they came. -/
structure QS where
  pr : Nat → Option Nat
  lst : Nat → List Nat
def QS.new : QS := ⟨fun _ => none, fun _ => []⟩
def QS.come (s : QS) (id p : Nat) : QS := ⟨fun j => if j = id then some p else s.pr j, fun q => if q = p then s.lst q ++ [id] else s.lst q⟩
def QS.go (s : QS) (id : Nat) : QS := ⟨fun j => if j = id then none else s.pr j, fun q => (s.lst q).filter fun j => decide (j ≠ id)⟩
/-- All, of the first k urgencies. -/
def flat (f : Nat → List Nat) : Nat → List (Nat × Nat)
  | 0 => []
  | k + 1 => flat f k ++ (f k).map fun i => (i, k)
def QS.all (s : QS) : List (Nat × Nat) := flat s.lst 101
structure QS.ok (m : Nat) (s : QS) : Prop where
  mem : ∀ p id, id ∈ s.lst p ↔ s.pr id = some p
  bd : ∀ id p, s.pr id = some p → id < 64 ∧ p < 101
  nd : ∀ p, (s.lst p).Nodup
  len : s.all.length ≤ m
  mx : m ≤ 1000
theorem QS.new_ok : QS.new.ok 0 := by
  refine ⟨fun p id => by simp [QS.new], fun id p h => by simp [QS.new] at h, fun p => List.nodup_nil, ?_, by omega⟩
  have : ∀ k, flat (fun _ => []) k = [] := fun k => by induction k with
    | zero => rfl
    | succ k ih => simp [flat, ih]
  show (flat (fun _ => []) 101).length ≤ 0
  rw [this]; exact Nat.le_refl _
theorem flat_len {f : Nat → List Nat} {p : Nat} : ∀ {k : Nat}, p < k → (f p).length ≤ (flat f k).length
  | 0, h => absurd h (by omega)
  | k + 1, h => by
    simp only [flat, List.length_append, List.length_map]
    by_cases e : p = k
    · subst e; omega
    · have := flat_len (f := f) (show p < k by omega); omega
theorem QS.ok.lst_len {m : Nat} {s : QS} (h : s.ok m) (p : Nat) : (s.lst p).length ≤ m := by
  by_cases hp : p < 101
  · exact Nat.le_trans (flat_len hp) h.len
  · have : s.lst p = [] := by
      cases hl : s.lst p with
      | nil => rfl
      | cons a t =>
        have h1 : a ∈ s.lst p := by rw [hl]; simp
        have := (h.bd a p ((h.mem p a).1 h1)).2
        omega
    rw [this]; simp
theorem flat_like {f g : Nat → List Nat} : ∀ {k : Nat}, (∀ q, q < k → f q = g q) → flat f k = flat g k
  | 0, _ => rfl
  | k + 1, h => by simp only [flat]; rw [flat_like fun q hq => h q (by omega), h k (by omega)]
/-- All, up to and with an urgency, then the others. -/
def flatFrom (f : Nat → List Nat) (a : Nat) : Nat → List (Nat × Nat)
  | 0 => []
  | k + 1 => flatFrom f a k ++ (f (a + k)).map fun i => (i, a + k)
theorem flat_split (f : Nat → List Nat) (a : Nat) : ∀ b, flat f (a + b) = flat f a ++ flatFrom f a b
  | 0 => by simp [flatFrom]
  | b + 1 => by
    show flat f (a + b) ++ _ = _
    rw [flat_split f a b]; simp [flatFrom]
theorem flatFrom_like {f g : Nat → List Nat} {a : Nat} : ∀ {k : Nat}, (∀ q, a ≤ q → f q = g q) → flatFrom f a k = flatFrom g a k
  | 0, _ => rfl
  | k + 1, h => by simp only [flatFrom]; rw [flatFrom_like h, h (a + k) (by omega)]
/-- Who comes stands behind all that are as urgent, ahead of all others. -/
theorem come_all (s : QS) (id p : Nat) (hp : p < 101) : (s.come id p).all = flat s.lst (p + 1) ++ [(id, p)] ++ flatFrom s.lst (p + 1) (100 - p) := by
  unfold QS.all
  rw [show 101 = (p + 1) + (100 - p) by omega, flat_split]
  congr 1
  · simp only [flat]
    have e1 : flat (s.come id p).lst p = flat s.lst p := flat_like fun q hq => by show (if q = p then _ else _) = _; rw [if_neg (by omega)]
    have e2 : (s.come id p).lst p = s.lst p ++ [id] := by show (if p = p then _ else _) = _; rw [if_pos rfl]
    rw [e1, e2]; simp
  · exact flatFrom_like fun q hq => by show (if q = p then _ else _) = _; rw [if_neg (by omega)]
theorem all_split (s : QS) (p : Nat) (hp : p < 101) : s.all = flat s.lst (p + 1) ++ flatFrom s.lst (p + 1) (100 - p) := by
  unfold QS.all
  rw [show 101 = (p + 1) + (100 - p) by omega, flat_split]
theorem flat_filter (f : Nat → List Nat) (id : Nat) : ∀ k, flat (fun q => (f q).filter fun j => decide (j ≠ id)) k = (flat f k).filter fun x => decide (x.1 ≠ id)
  | 0 => rfl
  | k + 1 => by
    simp only [flat, List.filter_append, flat_filter f id k, List.filter_map]
    rfl
theorem go_all (s : QS) (id : Nat) : (s.go id).all = s.all.filter fun x => decide (x.1 ≠ id) := flat_filter s.lst id 101
theorem flat_mem {f : Nat → List Nat} {x : Nat × Nat} : ∀ {k : Nat}, x ∈ flat f k ↔ x.2 < k ∧ x.1 ∈ f x.2
  | 0 => by simp [flat]
  | k + 1 => by
    simp only [flat, List.mem_append, flat_mem (k := k), List.mem_map]
    constructor
    · rintro (⟨h1, h2⟩ | ⟨i, h1, rfl⟩)
      · exact ⟨by omega, h2⟩
      · exact ⟨by show k < k + 1; omega, h1⟩
    · rintro ⟨h1, h2⟩
      by_cases e : x.2 = k
      · exact Or.inr ⟨x.1, by rw [← e]; exact h2, by rw [← e]⟩
      · exact Or.inl ⟨by omega, h2⟩
theorem QS.ok.all_mem {m : Nat} {s : QS} (h : s.ok m) {x : Nat × Nat} : x ∈ s.all ↔ s.pr x.1 = some x.2 := by
  unfold QS.all
  rw [flat_mem, h.mem]
  exact ⟨fun hx => hx.2, fun hx => ⟨(h.bd _ _ hx).2, hx⟩⟩
theorem QS.ok.come {m : Nat} {s : QS} (h : s.ok m) {id p : Nat} (hi : id < 64) (hp : p < 101) (hn : s.pr id = none) (hm : m + 1 ≤ 1000) : (s.come id p).ok (m + 1) := by
  refine ⟨fun q j => ?_, fun j q hj => ?_, fun q => ?_, ?_, hm⟩
  · show j ∈ (if q = p then s.lst q ++ [id] else s.lst q) ↔ (if j = id then some p else s.pr j) = some q
    have hno : id ∉ s.lst q := fun hc => by rw [(h.mem q id).1 hc] at hn; cases hn
    by_cases e : q = p
    · rw [if_pos e]
      by_cases e2 : j = id
      · subst e2; subst e; simp
      · rw [if_neg e2, ← h.mem q j]; simp [e2]
    · rw [if_neg e]
      by_cases e2 : j = id
      · rw [if_pos e2]; subst e2
        exact ⟨fun hc => absurd hc hno, fun hc => by injection hc with hc; exact absurd hc.symm e⟩
      · rw [if_neg e2]; exact h.mem q j
  · have hj : (if j = id then some p else s.pr j) = some q := hj
    by_cases e2 : j = id
    · rw [if_pos e2] at hj; injection hj with hj; subst hj; subst e2; exact ⟨hi, hp⟩
    · rw [if_neg e2] at hj; exact h.bd j q hj
  · show (if q = p then s.lst q ++ [id] else s.lst q).Nodup
    have hno : id ∉ s.lst q := fun hc => by rw [(h.mem q id).1 hc] at hn; cases hn
    by_cases e : q = p
    · rw [if_pos e, List.nodup_append]
      exact ⟨h.nd q, by simp, fun a ha b hb => by simp at hb; subst hb; exact fun hc => hno (hc ▸ ha)⟩
    · rw [if_neg e]; exact h.nd q
  · rw [come_all s id p hp]
    have h1 := h.len
    rw [all_split s p hp] at h1
    simp only [List.length_append, List.length_cons, List.length_nil] at h1 ⊢
    omega
theorem QS.ok.go {m : Nat} {s : QS} (h : s.ok m) (id : Nat) : (s.go id).ok m := by
  refine ⟨fun q j => ?_, fun j q hj => ?_, fun q => (h.nd q).filter _, ?_, h.mx⟩
  · show j ∈ (s.lst q).filter _ ↔ (if j = id then none else s.pr j) = some q
    rw [List.mem_filter, h.mem q j]
    by_cases e : j = id
    · simp [e]
    · simp [e]
  · have hj : (if j = id then none else s.pr j) = some q := hj
    by_cases e : j = id
    · rw [if_pos e] at hj; cases hj
    · rw [if_neg e] at hj; exact h.bd j q hj
  · rw [go_all]; exact Nat.le_trans (List.length_filter_le _ _) h.len
theorem QS.ok.more {m k : Nat} {s : QS} (h : s.ok m) (hk : m ≤ k) (h2 : k ≤ 1000) : s.ok k := ⟨h.mem, h.bd, h.nd, Nat.le_trans h.len hk, h2⟩
/-! ### What each call tells and does -/
def mayQ (id p : Int) : Prop := (0 ≤ id ∧ id < 64) ∧ 0 ≤ p ∧ p < 101
instance (id p : Int) : Decidable (mayQ id p) := by unfold mayQ; infer_instance
def hasQ (s : QS) (id : Int) : Prop := (0 ≤ id ∧ id < 64) ∧ (s.pr id.toNat).isSome = true
instance (s : QS) (id : Int) : Decidable (hasQ s id) := by unfold hasQ; infer_instance
def ComeP (s : QS) (id p f : Int) (s' : QS) : Prop :=
  (¬ mayQ id p ∧ f = 1 ∧ s' = s) ∨ (mayQ id p ∧ hasQ s id ∧ f = 7 ∧ s' = s) ∨ (mayQ id p ∧ s.pr id.toNat = none ∧ f = 0 ∧ s' = s.come id.toNat p.toNat)
theorem comeP_ex (s : QS) (id p : Int) : ∃ f s', ComeP s id p f s' := by
  by_cases h1 : mayQ id p
  · cases h2 : s.pr id.toNat with
    | none => exact ⟨_, _, Or.inr (Or.inr ⟨h1, h2, rfl, rfl⟩)⟩
    | some q => exact ⟨_, _, Or.inr (Or.inl ⟨h1, ⟨h1.1, by rw [h2]; rfl⟩, rfl, rfl⟩)⟩
  · exact ⟨_, _, Or.inl ⟨h1, rfl, rfl⟩⟩
def GoP (s : QS) (id f : Int) (s' : QS) : Prop :=
  (¬ hasQ s id ∧ f = 6 ∧ s' = s) ∨ (hasQ s id ∧ f = 0 ∧ s' = s.go id.toNat)
theorem goP_ex (s : QS) (id : Int) : ∃ f s', GoP s id f s' := by
  by_cases h1 : hasQ s id
  · exact ⟨_, _, Or.inr ⟨h1, rfl, rfl⟩⟩
  · exact ⟨_, _, Or.inl ⟨h1, rfl, rfl⟩⟩
def ChangeP (s : QS) (id p f : Int) (s' : QS) : Prop :=
  (¬ mayQ id p ∧ f = 1 ∧ s' = s) ∨ (mayQ id p ∧ ¬ hasQ s id ∧ f = 6 ∧ s' = s) ∨ (mayQ id p ∧ s.pr id.toNat = some p.toNat ∧ f = 0 ∧ s' = s) ∨
  (mayQ id p ∧ (∃ q, s.pr id.toNat = some q ∧ q ≠ p.toNat) ∧ f = 0 ∧ s' = (s.go id.toNat).come id.toNat p.toNat)
theorem changeP_ex (s : QS) (id p : Int) : ∃ f s', ChangeP s id p f s' := by
  by_cases h1 : mayQ id p
  · cases h2 : s.pr id.toNat with
    | none => exact ⟨_, _, Or.inr (Or.inl ⟨h1, (fun h => by have h3 := h.2; rw [h2] at h3; cases h3), rfl, rfl⟩)⟩
    | some q =>
      by_cases e : q = p.toNat
      · exact ⟨_, _, Or.inr (Or.inr (Or.inl ⟨h1, by rw [h2, e], rfl, rfl⟩))⟩
      · exact ⟨_, _, Or.inr (Or.inr (Or.inr ⟨h1, ⟨q, h2, e⟩, rfl, rfl⟩))⟩
  · exact ⟨_, _, Or.inl ⟨h1, rfl, rfl⟩⟩
def FirstP (s : QS) (a p f : Int) : Prop := (s.all = [] ∧ a = 0 ∧ p = 0 ∧ f = 5) ∨ ∃ x t, s.all = x :: t ∧ a = (x.1 : Nat) ∧ p = (x.2 : Nat) ∧ f = 0
theorem firstP_ex (s : QS) : ∃ a p f, FirstP s a p f := by
  cases h : s.all with
  | nil => exact ⟨_, _, _, Or.inl ⟨h, rfl, rfl, rfl⟩⟩
  | cons x t => exact ⟨_, _, _, Or.inr ⟨x, t, h, rfl, rfl, rfl⟩⟩
theorem ComeP.ok {m : Nat} {s s' : QS} {id p f : Int} (h : ComeP s id p f s') (hs : s.ok m) (hm : m + 1 ≤ 1000) : s'.ok (m + 1) := by
  rcases h with ⟨_, _, rfl⟩ | ⟨_, _, _, rfl⟩ | ⟨hq, hn, _, rfl⟩
  · exact hs.more (by omega) hm
  · exact hs.more (by omega) hm
  · exact hs.come (by have := hq.1; omega) (by have := hq.2; omega) hn hm
theorem GoP.ok {m : Nat} {s s' : QS} {id f : Int} (h : GoP s id f s') (hs : s.ok m) : s'.ok m := by
  rcases h with ⟨_, _, rfl⟩ | ⟨_, _, rfl⟩
  · exact hs
  · exact hs.go _
theorem go_none (s : QS) (id : Nat) : (s.go id).pr id = none := by show (if id = id then none else s.pr id) = none; rw [if_pos rfl]
theorem ChangeP.ok {m : Nat} {s s' : QS} {id p f : Int} (h : ChangeP s id p f s') (hs : s.ok m) (hm : m + 1 ≤ 1000) : s'.ok (m + 1) := by
  rcases h with ⟨_, _, rfl⟩ | ⟨_, _, _, rfl⟩ | ⟨_, _, _, rfl⟩ | ⟨hq, _, _, rfl⟩
  · exact hs.more (by omega) hm
  · exact hs.more (by omega) hm
  · exact hs.more (by omega) hm
  · exact (hs.go _).come (by have := hq.1; omega) (by have := hq.2; omega) (go_none _ _) hm
/-! ### In memory -/
def ivs (l : List Nat) : List Value := l.map fun (x : Nat) => Value.int .i64 (x : Int)
theorem ivs_len (l : List Nat) : (ivs l).length = l.length * 1 := by simp [ivs]
theorem ivs_get {l : List Nat} {i x : Nat} (h : l[i]? = some x) : (ivs l)[i]? = some (.int .i64 (x : Int)) := by simp [ivs, h]
theorem ivs_app (l m : List Nat) : ivs (l ++ m) = ivs l ++ ivs m := by simp [ivs]
theorem ivs_one (l : List Nat) : ∀ u ∈ ivs l, u.oneCell' = true := by
  intro u h
  obtain ⟨x, _, rfl⟩ := List.mem_map.1 h
  rfl
/-- A queue's cells: of each urgency a slice; of each member whether it is there, and its urgency. -/
def qV (v : Nat → Value) (s : QS) (i : Nat) : Value :=
  if i < 101 then v i else if (i - 101) % 2 = 0 then .bool (s.pr ((i - 101) / 2)).isSome else .int .i64 (((s.pr ((i - 101) / 2)).getD 0 : Nat) : Int)
theorem qV_lst {v : Nat → Value} {s : QS} {p : Nat} (h : p < 101) : qV v s p = v p := by unfold qV; rw [if_pos h]
theorem qV_there {v : Nat → Value} {s : QS} (id : Nat) : qV v s (101 + id * 2) = .bool (s.pr id).isSome := by
  unfold qV; rw [if_neg (by omega), if_pos (by omega), show (101 + id * 2 - 101) / 2 = id by omega]
theorem qV_prio {v : Nat → Value} {s : QS} (id : Nat) : qV v s (101 + id * 2 + 1) = .int .i64 (((s.pr id).getD 0 : Nat) : Int) := by
  unfold qV; rw [if_neg (by omega), if_neg (by omega), show (101 + id * 2 + 1 - 101) / 2 = id by omega]
def lsR (v : Nat → Value) (f : Nat → List Nat) (p : Nat) : Res := LisR 3 1 (v p) (f p).length (ivs (f p))
def QueL (q : Nat) (v : Nat → Value) (s : QS) : List Res := [ArrR q 120 229 (qV v s)] ++ (List.range 101).map (lsR v s.lst)
def QueR (q : Nat) (s : QS) : Res := fun w S => ∃ v, Star (QueL q v s) w S
theorem QueR.ok (q : Nat) (s : QS) : Ok (QueR q s) :=
  ⟨fun ⟨v, h⟩ b hb => (Star.ok _).lt h b hb, fun ⟨v, h⟩ hk => ⟨v, (Star.ok _).frame h hk⟩⟩
end Go.Proofs.Ytdemhhmceiaohaa
