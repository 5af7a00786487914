/- OrA: OrdM OrdC OrdD OrdE OrdF OrdG OrdH OrdI OrdJ in a namespace of their own. Printed by bin/nsgen.py. -/
import Derived.Test.YtdjhpdacglojaaaGreatGrid
import Derived.Test.YtdjhpdacglojaaaGreatRows
import Derived.Test.YtdjhpdacglojaaaGreatMore
import Derived.WalkLawsBesides
import Derived.WalkSpells
import Derived.BigQuiet
import Derived.RegionTactic
import Derived.LoopTactic
import Derived.Outline
import Derived.WalkKit
import Derived.Lib.Hide
import Derived.IntWalk
import Derived.WalkMore
import Derived.StillTailTactics
import Derived.Deep.DeepCutAuto
import Derived.Deep.QuietTactic
import Derived.Test.YtdjhpdacglojaaaGreatDel
import Derived.Deep.RegionLaw
namespace Go.Proofs.YtdjhpdacglojaaaGreat
open Go.RowKit
namespace od
section
set_option linter.unusedVariables false
/-- A request. -/
structure Wt where
  id : Int
  dead : Int
  track : Int
deriving DecidableEq
def mayW (x : Wt) : Prop := (0 ≤ x.id ∧ x.id ≤ 65535) ∧ (0 ≤ x.dead ∧ x.dead < 4611686018427387904) ∧ 0 ≤ x.track ∧ x.track ≤ 1048576
instance (x : Wt) : Decidable (mayW x) := by unfold mayW; infer_instance
/-- A queue, and its head. -/
structure OSt where
  l : List Wt
  head : Int
  up : Bool
def OSt.new : OSt := ⟨[], 0, true⟩
/-- A queue that may be. -/
structure OSt.ok (s : OSt) : Prop where
  may : ∀ x ∈ s.l, mayW x
  len : s.l.length ≤ 64
  one : ∀ (i j : Nat) (x y : Wt), s.l[i]? = some x → s.l[j]? = some y → x.id = y.id → i = j
  hd : 0 ≤ s.head ∧ s.head ≤ 1048576
theorem OSt.new_ok : OSt.new.ok := ⟨fun x h => (by cases h), by decide, fun i j x y h => (by simp [OSt.new] at h), by decide⟩
/-- Where a number stands. -/
def FindW (l : List Wt) (id z : Int) : Prop := (z = -1 ∧ ∀ x ∈ l, x.id ≠ id) ∨ ∃ (i : Nat) (x : Wt), z = (i : Int) ∧ l[i]? = some x ∧ x.id = id ∧ ∀ (j : Nat) (y : Wt), j < i → l[j]? = some y → y.id ≠ id
theorem findW_ex (l : List Wt) (id : Int) : ∃ z, FindW l id z := by
  induction l with
  | nil => exact ⟨-1, Or.inl ⟨rfl, fun x h => (by cases h)⟩⟩
  | cons a t ih =>
    by_cases e : a.id = id
    · exact ⟨0, Or.inr ⟨0, a, rfl, rfl, e, fun j y h => by omega⟩⟩
    · obtain ⟨z, h⟩ := ih
      rcases h with ⟨rfl, h⟩ | ⟨i, x, rfl, h1, h2, h3⟩
      · refine ⟨-1, Or.inl ⟨rfl, fun x hx => ?_⟩⟩
        rcases List.mem_cons.1 hx with rfl | hx
        · exact e
        · exact h x hx
      · refine ⟨((i + 1 : Nat) : Int), Or.inr ⟨i + 1, x, rfl, h1, h2, fun j y hj hy => ?_⟩⟩
        cases j with
        | zero => simp at hy; subst hy; exact e
        | succ j => exact h3 j y (by omega) (by simpa using hy)
/-! ### What each call tells and does -/
def AddP (s : OSt) (x : Wt) (f : Int) (s' : OSt) : Prop :=
  (¬ mayW x ∧ f = 1 ∧ s' = s) ∨ (mayW x ∧ (∃ y ∈ s.l, y.id = x.id) ∧ f = 7 ∧ s' = s) ∨ (mayW x ∧ (∀ y ∈ s.l, y.id ≠ x.id) ∧ s.l.length = 64 ∧ f = 4 ∧ s' = s) ∨
  (mayW x ∧ (∀ y ∈ s.l, y.id ≠ x.id) ∧ s.l.length ≠ 64 ∧ f = 0 ∧ s' = { s with l := s.l ++ [x] })
theorem addP_ex (s : OSt) (x : Wt) : ∃ f s', AddP s x f s' := by
  by_cases h1 : mayW x
  · by_cases h2 : ∃ y ∈ s.l, y.id = x.id
    · exact ⟨_, _, Or.inr (Or.inl ⟨h1, h2, rfl, rfl⟩)⟩
    · have h3 : ∀ y ∈ s.l, y.id ≠ x.id := fun y hy e => h2 ⟨y, hy, e⟩
      by_cases h4 : s.l.length = 64
      · exact ⟨_, _, Or.inr (Or.inr (Or.inl ⟨h1, h3, h4, rfl, rfl⟩))⟩
      · exact ⟨_, _, Or.inr (Or.inr (Or.inr ⟨h1, h3, h4, rfl, rfl⟩))⟩
  · exact ⟨_, _, Or.inl ⟨h1, rfl, rfl⟩⟩
theorem AddP.ok {s s' : OSt} {x : Wt} {f : Int} (h : AddP s x f s') (hs : s.ok) : s'.ok := by
  rcases h with ⟨_, _, rfl⟩ | ⟨_, _, _, rfl⟩ | ⟨_, _, _, _, rfl⟩ | ⟨h1, h2, h3, _, rfl⟩
  · exact hs
  · exact hs
  · exact hs
  · refine ⟨fun y hy => ?_, ?_, fun i j a b hi hj e => ?_, hs.hd⟩
    · rcases List.mem_append.1 hy with hy | hy
      · exact hs.may y hy
      · simp at hy; subst hy; exact h1
    · have := hs.len; simp; omega
    · have hl : ∀ (k : Nat) (z : Wt), (s.l ++ [x])[k]? = some z → (k < s.l.length ∧ s.l[k]? = some z) ∨ (k = s.l.length ∧ z = x) := fun k z hk => by
        by_cases hk2 : k < s.l.length
        · rw [List.getElem?_append_left hk2] at hk; exact Or.inl ⟨hk2, hk⟩
        · rw [List.getElem?_append_right (by omega)] at hk
          have : k - s.l.length = 0 := by
            have := (List.getElem?_eq_some_iff.1 hk).1
            simp at this; omega
          rw [this] at hk; simp at hk
          exact Or.inr ⟨by omega, hk.symm⟩
      rcases hl i a hi with ⟨_, h4⟩ | ⟨h4, rfl⟩ <;> rcases hl j b hj with ⟨_, h5⟩ | ⟨h5, rfl⟩
      · exact hs.one i j a b h4 h5 e
      · exact absurd e (h2 a (List.mem_of_getElem? h4))
      · exact absurd e.symm (h2 b (List.mem_of_getElem? h5))
      · omega
def DropP (s : OSt) (id f : Int) (s' : OSt) : Prop := ((∀ x ∈ s.l, x.id ≠ id) ∧ f = 6 ∧ s' = s) ∨ ∃ (i : Nat) (x : Wt), s.l[i]? = some x ∧ x.id = id ∧ f = 0 ∧ s' = { s with l := s.l.eraseIdx i }
theorem dropP_ex (s : OSt) (id : Int) : ∃ f s', DropP s id f s' := by
  obtain ⟨z, h⟩ := findW_ex s.l id
  rcases h with ⟨_, h⟩ | ⟨i, x, _, h1, h2, _⟩
  · exact ⟨_, _, Or.inl ⟨h, rfl, rfl⟩⟩
  · exact ⟨_, _, Or.inr ⟨i, x, h1, h2, rfl, rfl⟩⟩
theorem erase_at {l : List Wt} {i k : Nat} {x : Wt} (h : (l.eraseIdx i)[k]? = some x) : ∃ k', l[k']? = some x ∧ k' ≠ i ∧ (k' = if k < i then k else k + 1) := by
  rw [List.getElem?_eraseIdx] at h
  by_cases e : k < i
  · rw [if_pos e] at h; exact ⟨k, h, by omega, by rw [if_pos e]⟩
  · rw [if_neg e] at h; exact ⟨k + 1, h, by omega, by rw [if_neg e]⟩
theorem OSt.ok.erase {s : OSt} (hs : s.ok) (i : Nat) : ({ s with l := s.l.eraseIdx i } : OSt).ok := by
  refine ⟨fun y hy => hs.may y (List.mem_of_mem_eraseIdx hy), ?_, fun a b x y ha hb e => ?_, hs.hd⟩
  · exact Nat.le_trans (List.length_eraseIdx_le _ _) hs.len
  · obtain ⟨a', h1, h2, h3⟩ := erase_at ha
    obtain ⟨b', h4, h5, h6⟩ := erase_at hb
    have := hs.one a' b' x y h1 h4 e
    subst this
    by_cases e1 : a < i <;> by_cases e2 : b < i <;> simp only [e1, e2, if_true, if_false] at h3 h6 <;> omega
theorem DropP.ok {s s' : OSt} {id f : Int} (h : DropP s id f s') (hs : s.ok) : s'.ok := by
  rcases h with ⟨_, _, rfl⟩ | ⟨i, x, _, _, _, rfl⟩
  · exact hs
  · exact hs.erase i
/-- How far off the head a track is, on the way. -/
def off (up : Bool) (head t : Int) : Int := if up then t - head else head - t
/-- The least time. -/
def firstD (l : List Wt) : Int := l.foldl (fun a x => if x.dead < a then x.dead else a) 4611686018427387904
theorem foldl_le (l : List Wt) : ∀ a, (l.foldl (fun a (x : Wt) => if x.dead < a then x.dead else a) a ≤ a) ∧ (∀ x ∈ l, l.foldl (fun a (x : Wt) => if x.dead < a then x.dead else a) a ≤ x.dead) ∧ (l.foldl (fun a (x : Wt) => if x.dead < a then x.dead else a) a = a ∨ ∃ x ∈ l, x.dead = l.foldl (fun a (x : Wt) => if x.dead < a then x.dead else a) a) := by
  induction l with
  | nil => intro a; exact ⟨Int.le_refl _, fun x h => (by cases h), Or.inl rfl⟩
  | cons y t ih =>
    intro a
    simp only [List.foldl_cons]
    obtain ⟨h1, h2, h3⟩ := ih (if y.dead < a then y.dead else a)
    refine ⟨?_, fun x hx => ?_, ?_⟩
    · split at h1 <;> (split <;> omega)
    · rcases List.mem_cons.1 hx with rfl | hx
      · split at h1 <;> (split <;> omega)
      · exact h2 x hx
    · rcases h3 with h3 | ⟨x, hx, h3⟩
      · rw [h3]
        by_cases e : y.dead < a
        · rw [if_pos e]; exact Or.inr ⟨y, List.mem_cons_self, rfl⟩
        · rw [if_neg e]; exact Or.inl rfl
      · exact Or.inr ⟨x, List.mem_cons_of_mem _ hx, h3⟩
theorem firstD_le {l : List Wt} {x : Wt} (h : x ∈ l) : firstD l ≤ x.dead := (foldl_le l _).2.1 x h
theorem firstD_mem {s : OSt} (hs : s.ok) (hne : s.l ≠ []) : ∃ x ∈ s.l, x.dead = firstD s.l := by
  rcases (foldl_le s.l 4611686018427387904).2.2 with h | h
  · obtain ⟨x, hx⟩ := List.exists_mem_of_ne_nil _ hne
    have h1 := (hs.may x hx).2.1.2
    have h2 := firstD_le hx
    unfold firstD at h2; omega
  · exact h
/-- Is one sought on the way? -/
def cand (s : OSt) (up : Bool) (x : Wt) : Prop := x.dead = firstD s.l ∧ 0 ≤ off up s.head x.track
instance (s : OSt) (up : Bool) (x : Wt) : Decidable (cand s up x) := by unfold cand; infer_instance
/-- Is one nearer than another one? -/
def nearer (s : OSt) (up : Bool) (x y : Wt) : Prop := off up s.head x.track < off up s.head y.track ∨ (off up s.head x.track = off up s.head y.track ∧ x.id < y.id)
instance (s : OSt) (up : Bool) (x y : Wt) : Decidable (nearer s up x y) := by unfold nearer; infer_instance
/-- The nearest one on the way, of the first k. -/
def NearP (s : OSt) (up : Bool) (k : Nat) (r : Option Wt) : Prop :=
  match r with
  | none => ∀ (i : Nat) (x : Wt), i < k → s.l[i]? = some x → ¬ cand s up x
  | some w => (∃ i, i < k ∧ s.l[i]? = some w) ∧ cand s up w ∧ ∀ (i : Nat) (x : Wt), i < k → s.l[i]? = some x → cand s up x → ¬ nearer s up x w
/-- One more is looked at. -/
def nearStep (s : OSt) (up : Bool) (r : Option Wt) (x : Wt) : Option Wt :=
  if cand s up x then (match r with | none => some x | some w => if nearer s up x w then some x else some w) else r
theorem nearer_irr (s : OSt) (up : Bool) (x : Wt) : ¬ nearer s up x x := by unfold nearer; omega
theorem NearP.step {s : OSt} {up : Bool} {k : Nat} {r : Option Wt} {x : Wt} (h : NearP s up k r) (hx : s.l[k]? = some x) : NearP s up (k + 1) (nearStep s up r x) := by
  unfold nearStep
  by_cases hc : cand s up x
  · rw [if_pos hc]
    cases r with
    | none =>
      refine ⟨⟨k, by omega, hx⟩, hc, fun i y hi hy hcy => ?_⟩
      by_cases e : i = k
      · subst e; rw [hx] at hy; injection hy with hy; subst hy; exact nearer_irr _ _ _
      · exact absurd hcy (h i y (by omega) hy)
    | some w =>
      obtain ⟨⟨j, hj, hw⟩, hcw, hle⟩ := h
      by_cases hn : nearer s up x w
      · simp only [if_pos hn]
        refine ⟨⟨k, by omega, hx⟩, hc, fun i y hi hy hcy => ?_⟩
        by_cases e : i = k
        · subst e; rw [hx] at hy; injection hy with hy; subst hy; exact nearer_irr _ _ _
        · have := hle i y (by omega) hy hcy
          unfold nearer at *; omega
      · simp only [if_neg hn]
        refine ⟨⟨j, by omega, hw⟩, hcw, fun i y hi hy hcy => ?_⟩
        by_cases e : i = k
        · subst e; rw [hx] at hy; injection hy with hy; subst hy; exact hn
        · exact hle i y (by omega) hy hcy
  · rw [if_neg hc]
    cases r with
    | none =>
      intro i y hi hy
      by_cases e : i = k
      · subst e; rw [hx] at hy; injection hy with hy; subst hy; exact hc
      · exact h i y (by omega) hy
    | some w =>
      obtain ⟨⟨j, hj, hw⟩, hcw, hle⟩ := h
      refine ⟨⟨j, by omega, hw⟩, hcw, fun i y hi hy hcy => ?_⟩
      by_cases e : i = k
      · subst e; rw [hx] at hy; injection hy with hy; subst hy; exact absurd hcy hc
      · exact hle i y (by omega) hy hcy
theorem NearP.uniq {s : OSt} (hs : s.ok) {up : Bool} {r r' : Option Wt} (h : NearP s up s.l.length r) (h' : NearP s up s.l.length r') : r = r' := by
  cases r with
  | none =>
    cases r' with
    | none => rfl
    | some w => obtain ⟨⟨i, hi, hw⟩, hc, _⟩ := h'; exact absurd hc (h i w hi hw)
  | some w =>
    obtain ⟨⟨i, hi, hw⟩, hc, hle⟩ := h
    cases r' with
    | none => exact absurd hc (h' i w hi hw)
    | some v =>
      obtain ⟨⟨j, hj, hv⟩, hcv, hle'⟩ := h'
      have h1 := hle j v hj hv hcv
      have h2 := hle' i w hi hw hc
      have : w.id = v.id := by unfold nearer at *; omega
      have e := hs.one i j w v hw hv this
      subst e; rw [hw] at hv; exact hv
theorem nearP_ex (s : OSt) (up : Bool) : ∀ k, k ≤ s.l.length → ∃ r, NearP s up k r
  | 0, _ => ⟨none, fun i x h => by omega⟩
  | k + 1, h => by
    obtain ⟨r, hr⟩ := nearP_ex s up k (by omega)
    obtain ⟨x, hx⟩ : ∃ x, s.l[k]? = some x := ⟨_, List.getElem?_eq_getElem (by omega)⟩
    exact ⟨_, hr.step hx⟩
/-- The next one: it, whether the head goes up to it, the answer. -/
def NextP (s : OSt) (x : Wt) (up : Bool) (f : Int) : Prop :=
  (s.l = [] ∧ x = ⟨0, 0, 0⟩ ∧ up = false ∧ f = 5) ∨ (NearP s s.up s.l.length (some x) ∧ up = s.up ∧ f = 0) ∨ (NearP s s.up s.l.length none ∧ NearP s (!s.up) s.l.length (some x) ∧ up = (!s.up) ∧ f = 0)
theorem off_neg (up : Bool) (h t : Int) : off (!up) h t = - off up h t := by cases up <;> simp [off] <;> omega
theorem nextP_ex {s : OSt} (hs : s.ok) : ∃ x up f, NextP s x up f := by
  by_cases hne : s.l = []
  · exact ⟨_, _, _, Or.inl ⟨hne, rfl, rfl, rfl⟩⟩
  · obtain ⟨r, hr⟩ := nearP_ex s s.up s.l.length (Nat.le_refl _)
    cases r with
    | some x => exact ⟨_, _, _, Or.inr (Or.inl ⟨hr, rfl, rfl⟩)⟩
    | none =>
      obtain ⟨r', hr'⟩ := nearP_ex s (!s.up) s.l.length (Nat.le_refl _)
      cases r' with
      | some x => exact ⟨_, _, _, Or.inr (Or.inr ⟨hr, hr', rfl, rfl⟩)⟩
      | none =>
        exfalso
        obtain ⟨x, hx, hd⟩ := firstD_mem hs hne
        obtain ⟨i, hi⟩ := List.mem_iff_getElem?.1 hx
        have hil := (List.getElem?_eq_some_iff.1 hi).1
        have h1 := hr i x hil hi
        have h2 := hr' i x hil hi
        have h3 := off_neg s.up s.head x.track
        apply h1
        refine ⟨hd, ?_⟩
        by_cases e : 0 ≤ off s.up s.head x.track
        · exact e
        · exact absurd ⟨hd, by omega⟩ h2
theorem NearP.mem {s : OSt} {up : Bool} {k : Nat} {x : Wt} (h : NearP s up k (some x)) : ∃ i : Nat, s.l[i]? = some x := by
  obtain ⟨⟨i, _, hi⟩, _⟩ := h
  exact ⟨i, hi⟩
theorem NextP.uniq {s : OSt} (hs : s.ok) {x y : Wt} {a b : Bool} {f g : Int} (h : NextP s x a f) (k : NextP s y b g) : x = y ∧ a = b ∧ f = g := by
  rcases h with ⟨h1, rfl, rfl, rfl⟩ | ⟨h1, rfl, rfl⟩ | ⟨h1, h2, rfl, rfl⟩ <;> rcases k with ⟨k1, rfl, rfl, rfl⟩ | ⟨k1, rfl, rfl⟩ | ⟨k1, k2, rfl, rfl⟩
  · exact ⟨rfl, rfl, rfl⟩
  · obtain ⟨i, hi⟩ := NearP.mem k1; rw [h1] at hi; simp at hi
  · obtain ⟨i, hi⟩ := NearP.mem k2; rw [h1] at hi; simp at hi
  · obtain ⟨i, hi⟩ := NearP.mem h1; rw [k1] at hi; simp at hi
  · have := NearP.uniq hs h1 k1; injection this with this; exact ⟨this, rfl, rfl⟩
  · have := NearP.uniq hs h1 k1; cases this
  · obtain ⟨i, hi⟩ := NearP.mem h2; rw [k1] at hi; simp at hi
  · have := NearP.uniq hs h1 k1; cases this
  · have := NearP.uniq hs h2 k2; injection this with this; exact ⟨this, rfl, rfl⟩
theorem NextP.mem {s : OSt} {x : Wt} {up : Bool} (h : NextP s x up 0) : ∃ i : Nat, s.l[i]? = some x := by
  rcases h with ⟨_, _, _, h⟩ | ⟨h, _, _⟩ | ⟨_, h, _, _⟩
  · omega
  · exact NearP.mem h
  · exact NearP.mem h
/-- What Take does. -/
def TakeP (s : OSt) (x : Wt) (f : Int) (s' : OSt) : Prop := ∃ up, NextP s x up f ∧ ((f = 5 ∧ s' = s) ∨ (f = 0 ∧ ∃ i : Nat, s.l[i]? = some x ∧ s' = ⟨s.l.eraseIdx i, x.track, up⟩))
theorem takeP_ex {s : OSt} (hs : s.ok) : ∃ x f s', TakeP s x f s' := by
  obtain ⟨x, up, f, h⟩ := nextP_ex hs
  have h0 := h
  rcases h with ⟨_, _, _, hf⟩ | ⟨_, _, hf⟩ | ⟨_, _, _, hf⟩
  · exact ⟨x, f, s, up, h0, Or.inl ⟨hf, rfl⟩⟩
  all_goals
    subst hf
    obtain ⟨i, hi⟩ := h0.mem
    exact ⟨x, 0, _, up, h0, Or.inr ⟨rfl, i, hi, rfl⟩⟩
theorem TakeP.ok {s s' : OSt} {x : Wt} {f : Int} (h : TakeP s x f s') (hs : s.ok) : s'.ok := by
  obtain ⟨up, hn, ⟨_, rfl⟩ | ⟨_, i, hi, rfl⟩⟩ := h
  · exact hs
  · have h1 := hs.erase i
    exact ⟨h1.may, h1.len, h1.one, (hs.may x (List.mem_of_getElem? hi)).2.2⟩
/-! ### In memory -/
def ovs : List Wt → List Value
  | [] => []
  | x :: t => .int .i64 x.id :: .int .u64 x.dead :: .int .i64 x.track :: ovs t
theorem ovs_len : ∀ l, (ovs l).length = l.length * 3
  | [] => rfl
  | x :: t => by simp only [ovs, List.length_cons, ovs_len t]; omega
theorem ovs_app : ∀ l m, ovs (l ++ m) = ovs l ++ ovs m
  | [], m => rfl
  | x :: t, m => by simp [ovs, ovs_app t m]
theorem ovs_at : ∀ (l : List Wt) (i : Nat) (x : Wt), l[i]? = some x → (ovs l)[i * 3]? = some (.int .i64 x.id) ∧ (ovs l)[i * 3 + 1]? = some (.int .u64 x.dead) ∧ (ovs l)[i * 3 + 2]? = some (.int .i64 x.track)
  | [], i, x, h => by simp at h
  | y :: t, 0, x, h => by simp at h; subst h; simp [ovs]
  | y :: t, i + 1, x, h => by
    have h := ovs_at t i x (by simpa using h)
    rw [show (i + 1) * 3 = i * 3 + 1 + 1 + 1 by omega]
    simpa [ovs, Nat.add_right_comm] using h
theorem ovs_take : ∀ (l : List Wt) (i : Nat), (ovs l).take (i * 3) = ovs (l.take i)
  | [], i => by simp [ovs]
  | x :: t, 0 => by simp [ovs]
  | x :: t, i + 1 => by
    rw [show (i + 1) * 3 = i * 3 + 1 + 1 + 1 by omega]
    simp only [ovs, List.take_succ_cons, ovs_take t i]
theorem ovs_drop : ∀ (l : List Wt) (i : Nat), (ovs l).drop (i * 3) = ovs (l.drop i)
  | [], i => by simp [ovs]
  | x :: t, 0 => by simp [ovs]
  | x :: t, i + 1 => by
    rw [show (i + 1) * 3 = i * 3 + 1 + 1 + 1 by omega]
    simp only [ovs, List.drop_succ_cons, ovs_drop t i]
theorem ovs_one : ∀ l, ∀ u ∈ ovs l, u.oneCell' = true
  | [], u, h => by simp [ovs] at h
  | x :: t, u, h => by
    simp only [ovs, List.mem_cons] at h
    rcases h with rfl | rfl | rfl | h
    · rfl
    · rfl
    · rfl
    · exact ovs_one t u h
end
section
set_option linter.unusedVariables false
set_option maxRecDepth 100000
set_option maxHeartbeats 1000000
def Wt.v (x : Wt) : Value := .agg #[.int .i64 x.id, .int .u64 x.dead, .int .i64 x.track]
def Wt.cells (x : Wt) : Array Value := #[.int .i64 x.id, .int .u64 x.dead, .int .i64 x.track]
def OQL (q : Nat) (A : Option Addr) (c : Nat) (s : OSt) : List Res :=
  [BlkR q 210 #[.slice A s.l.length c, .int .i64 s.head, .bool s.up], LisR 114 3 (.slice A s.l.length c) s.l.length (ovs s.l)]
def OQR (q : Nat) (s : OSt) : Res := fun w S => ∃ A c, Star (OQL q A c s) w S
theorem OQR.ok (q : Nat) (s : OSt) : Ok (OQR q s) :=
  ⟨fun ⟨A, c, h⟩ b hb => (Star.ok _).lt h b hb, fun ⟨A, c, h⟩ hk => ⟨A, c, (Star.ok _).frame h hk⟩⟩
theorem tmay (t : Int) (w : World) (b : Bool) (hb : b = decide (t < 4611686018427387904)) : Calls Tryz.prog 102 #[.int .u64 t] w fun e w' => e = .returned (.bool b) ∧ w = w' := by
  by_cases h : t < 4611686018427387904
  · obtain rfl : b = true := by rw [hb]; exact decide_eq_true h
    have d : decide (t < 4611686018427387904) = true := decide_eq_true h
    clear hb h
    go_enter Tryz.func102, Tryz.ntmps102
    go_wp2_with fail
    go_ret
    exact ⟨rfl, rfl⟩
  · obtain rfl : b = false := by rw [hb]; exact decide_eq_false h
    have d : decide (t < 4611686018427387904) = false := decide_eq_false h
    clear hb h
    go_enter Tryz.func102, Tryz.ntmps102
    go_wp2_with fail
    go_ret
    exact ⟨rfl, rfl⟩
theorem May_c (x : Wt) (w : World) (hx : 0 ≤ x.dead) (b : Bool) (hb : b = decide (mayW x)) :
    Calls Tryz.prog 100 #[x.v] w fun e w' => e = .returned (.bool b) ∧ Below w.heap.size w w' := by
  obtain ⟨q0, q1, q2⟩ := (Blk.new w 114 #[.int .i64 x.id, .int .u64 x.dead, .int .i64 x.track]).three
  unfold Wt.v
  by_cases h0 : 0 ≤ x.id
  case neg =>
    obtain rfl : b = false := by rw [hb]; exact decide_eq_false fun h => by unfold mayW at h; omega
    have d0 : decide (0 ≤ x.id) = false := decide_eq_false h0
    clear hb h0 hx
    go_enter Tryz.func100, Tryz.ntmps100
    go_wp2_with fail
    go_ret
    exact ⟨rfl, (Below.refl _ _).alloc (Nat.le_refl _) _⟩
  have d0 : decide (0 ≤ x.id) = true := decide_eq_true h0
  by_cases h1 : x.id ≤ 65535
  case neg =>
    obtain rfl : b = false := by rw [hb]; exact decide_eq_false fun h => by unfold mayW at h; omega
    have d1 : decide (x.id ≤ 65535) = false := decide_eq_false h1
    clear hb h0 h1 hx
    go_enter Tryz.func100, Tryz.ntmps100
    go_wp2_with fail
    go_ret
    exact ⟨rfl, (Below.refl _ _).alloc (Nat.le_refl _) _⟩
  have d1 : decide (x.id ≤ 65535) = true := decide_eq_true h1
  by_cases h2 : x.dead < 4611686018427387904
  case neg =>
    obtain rfl : b = false := by rw [hb]; exact decide_eq_false fun h => by unfold mayW at h; omega
    have TM := Lib.hid (show false = decide (x.dead < 4611686018427387904) from (decide_eq_false h2).symm)
    clear hb h0 h1 h2 hx
    go_enter Tryz.func100, Tryz.ntmps100
    go_wp2_with fail
    refine (tmay x.dead _ _ TM.out).mono ?_
    rintro e w1 ⟨rfl, rfl⟩
    go_wp2_with fail
    go_ret
    exact ⟨rfl, (Below.refl _ _).alloc (Nat.le_refl _) _⟩
  by_cases h3 : 0 ≤ x.track
  case neg =>
    obtain rfl : b = false := by rw [hb]; exact decide_eq_false fun h => by unfold mayW at h; omega
    have TM := Lib.hid (show true = decide (x.dead < 4611686018427387904) from (decide_eq_true h2).symm)
    have d3 : decide (0 ≤ x.track) = false := decide_eq_false h3
    clear hb h0 h1 h2 h3 hx
    go_enter Tryz.func100, Tryz.ntmps100
    go_wp2_with fail
    refine (tmay x.dead _ _ TM.out).mono ?_
    rintro e w1 ⟨rfl, rfl⟩
    go_wp2_with fail
    go_ret
    exact ⟨rfl, (Below.refl _ _).alloc (Nat.le_refl _) _⟩
  have d3 : decide (0 ≤ x.track) = true := decide_eq_true h3
  by_cases h4 : x.track ≤ 1048576
  case neg =>
    obtain rfl : b = false := by rw [hb]; exact decide_eq_false fun h => by unfold mayW at h; omega
    have TM := Lib.hid (show true = decide (x.dead < 4611686018427387904) from (decide_eq_true h2).symm)
    have d4 : decide (x.track ≤ 1048576) = false := decide_eq_false h4
    clear hb h0 h1 h2 h3 h4 hx
    go_enter Tryz.func100, Tryz.ntmps100
    go_wp2_with fail
    refine (tmay x.dead _ _ TM.out).mono ?_
    rintro e w1 ⟨rfl, rfl⟩
    go_wp2_with fail
    go_ret
    exact ⟨rfl, (Below.refl _ _).alloc (Nat.le_refl _) _⟩
  have d4 : decide (x.track ≤ 1048576) = true := decide_eq_true h4
  obtain rfl : b = true := by rw [hb]; exact decide_eq_true (by unfold mayW; omega)
  have TM := Lib.hid (show true = decide (x.dead < 4611686018427387904) from (decide_eq_true h2).symm)
  clear hb h0 h1 h2 h3 h4 hx
  go_enter Tryz.func100, Tryz.ntmps100
  go_wp2_with fail
  refine (tmay x.dead _ _ TM.out).mono ?_
  rintro e w1 ⟨rfl, rfl⟩
  go_wp2_with fail
  go_ret
  exact ⟨rfl, (Below.refl _ _).alloc (Nat.le_refl _) _⟩
section
variable {w0 w w' : World} {S0 S : Nat → Prop} {N L : List Res} {q : Nat} {s s' : OSt}
theorem want_at {A : Option Addr} {n c i : Nat} {l : List Wt} {x : Wt} (h : Lis w 114 3 (.slice A n c) n (ovs l)) (hx : l[i]? = some x) : ∃ b off, A = some ⟨b, off, none⟩ ∧ i < n ∧ w.cell? ⟨b, off + i * 3, none⟩ = some (.int .i64 x.id) ∧ w.cell? ⟨b, off + i * 3 + 1, none⟩ = some (.int .u64 x.dead) ∧ w.cell? ⟨b, off + i * 3 + 2, none⟩ = some (.int .i64 x.track) := by
  have hl : l.length = n := by have := h.1; rw [ovs_len] at this; omega
  have hi := (List.getElem?_eq_some_iff.1 hx).1
  rcases h.reads.2 with h0 | ⟨b, off, rfl, hc⟩
  · omega
  · have := ovs_at l i x hx
    exact ⟨b, off, rfl, by omega, hc _ _ this.1, by rw [Nat.add_assoc]; exact hc _ _ this.2.1, by rw [Nat.add_assoc]; exact hc _ _ this.2.2⟩
theorem lis_len {A : Option Addr} {n c : Nat} {l : List Wt} (h : Lis w 114 3 (.slice A n c) n (ovs l)) : l.length = n := by have := h.1; rw [ovs_len] at this; omega
/-- The closure of place. -/
theorem is_c (x : Wt) (id : Int) (p : Nat) (w : World) (hp : w.cell? ⟨p, 0, none⟩ = some (.int .i64 id)) (b : Bool) (hb : b = (x.id == id)) :
    Calls Tryz.prog 145 #[x.v, .pointer (some ⟨p, 0, none⟩)] w fun e w' => e = .returned (.bool b) ∧ Below w.heap.size w w' := by
  obtain ⟨q0, q1, q2⟩ := (Blk.new w 114 #[.int .i64 x.id, .int .u64 x.dead, .int .i64 x.track]).three
  have p0 := cell_alloc hp (.cells #[.int .i64 x.id, .int .u64 x.dead, .int .i64 x.track] 114)
  unfold Wt.v
  have HB := Lib.hid hb
  clear hb
  go_enter Tryz.func145, Tryz.ntmps145
  go_wp2_with fail
  go_ret
  exact ⟨by rw [HB.out]; rfl, (Below.refl _ _).alloc (Nat.le_refl _) _⟩
theorem IndexF_c {A : Option Addr} {n c : Nat} {l : List Wt} (H : St w0 S0 w L) (i : Nat) (hi : L[i]? = some (LisR 114 3 (.slice A n c) n (ovs l))) (hn : n ≤ 1000) (j : Nat) (p : Nat) (id : Int) (hj : L[j]? = some (BlkR p 3 #[.int .i64 id])) {z : Int} (hz : FindW l id z) :
    Calls Tryz.prog 144 #[.slice A n c, .func (Fn.func 145) #[] #[.pointer (some ⟨p, 0, none⟩)]] w fun e w' => e = .returned (.int .i64 z) ∧ Below w.heap.size w w' := by
  have hl := lis_len (H.lis i hi)
  have HH := Lib.hid H
  have HZ := Lib.hid hz
  clear H hz
  go_enter Tryz.func144, Tryz.ntmps144
  go_wp2_with fail
  go_loopw [8] (fun t wr => ∃ k : Nat, k ≤ n ∧ t = .int .i64 (k : Int) ∧ (∀ (m : Nat) (y : Wt), m < k → l[m]? = some y → y.id ≠ id) ∧ Below w.heap.size w wr) (fun t _ => n - (intOf t).toNat)
  case atStart => exact ⟨0, by omega, rfl, fun m y h => by omega, Below.refl _ _⟩
  case round =>
  obtain ⟨k, hk, rfl, hno, hb⟩ := hrel
  have sr := HH.out.stay hb
  have HB := Lib.hid hb
  have HNO := Lib.hid hno
  clear hno
  by_cases hkn : k < n
  · obtain ⟨x, hx⟩ : ∃ x, l[k]? = some x := ⟨_, List.getElem?_eq_getElem (by omega)⟩
    obtain ⟨b, off, rfl, -, m0, m1, m2⟩ := want_at (sr.lis i hi) hx
    have cp := (sr.blk j hj).one
    have t1 : decide ((k : Int) < (n : Int)) = true := decide_eq_true (by omega)
    have t1' : decide (k < n) = true := decide_eq_true hkn
    have IC := Lib.hid (fun b hb => is_c x id p wr cp b hb)
    unfold Wt.v at IC
    by_cases e : x.id = id
    · have I1 := Lib.hid (IC.out true (beq_iff_eq.2 e).symm)
      have HK := Lib.hid (show z = (k : Int) from by
        rcases HZ.out with ⟨_, h⟩ | ⟨i', y, h1, h2, h3, h4⟩
        · exact absurd e (h x (List.mem_of_getElem? hx))
        · rcases Nat.lt_trichotomy i' k with h5 | h5 | h5
          · exact absurd h3 (HNO.out i' y h5 h2)
          · rw [h1, h5]
          · exact absurd e (h4 k x h5 hx))
      clear e IC hx sr cp HZ hb
      go_wp2_with fail
      refine I1.out.mono ?_
      rintro e w1 ⟨rfl, b1⟩
      have S1 := Lib.hid (below_then HB.out b1)
      clear I1 b1
      go_wp2_with fail
      go_ret
      exact ⟨by rw [HK.out]; rfl, S1.out⟩
    · have I1 := Lib.hid (IC.out false (beq_eq_false_iff_ne.2 e).symm)
      have HN2 := Lib.hid (show ∀ (m : Nat) (y : Wt), m < k + 1 → l[m]? = some y → y.id ≠ id from fun m y hm hy => by
        by_cases e2 : m = k
        · subst e2; rw [hx] at hy; injection hy with hy; subst hy; exact e
        · exact HNO.out m y (by omega) hy)
      clear e IC hx sr cp HNO hb
      go_wp2_with fail
      refine I1.out.mono ?_
      rintro e w1 ⟨rfl, b1⟩
      have S1 := Lib.hid (below_then HB.out b1)
      clear I1 b1
      go_wp2_with fail
      go_roundw
      case rel => exact ⟨k + 1, by omega, by go_num, HN2.out, S1.out⟩
      case measure => simp [intOf]; omega
  · obtain rfl : k = n := by omega
    have t1 : decide ((k : Int) < (k : Int)) = false := decide_eq_false (by omega)
    have t1' : decide (k < k) = false := decide_eq_false (by omega)
    have HK := Lib.hid (show z = -1 from by
      rcases HZ.out with ⟨h, _⟩ | ⟨i', y, h1, h2, h3, h4⟩
      · exact h
      · have := (List.getElem?_eq_some_iff.1 h2).1
        exact absurd h3 (HNO.out i' y (by omega) h2))
    clear sr HZ HNO hb
    go_wp2_with fail
    go_ret
    exact ⟨by rw [HK.out]; rfl, HB.out⟩
theorem place_c (h : OQR q s w S) (hs : s.ok) {id z : Int} (hz : FindW s.l id z) :
    Calls Tryz.prog 101 #[.pointer (some ⟨q, 0, none⟩), .int .i64 id] w fun e w' => e = .returned (.int .i64 z) ∧ Below w.heap.size w w' := by
  obtain ⟨A, c, hr⟩ := h
  have s0 := St.start hr
  have hlen := hs.len
  have hn : s.l.length ≤ 1000 := by omega
  have s1 := s0.box 3 #[.int .i64 id]
  have q0 : (w.alloc (.cells #[.int .i64 id] 3)).cell? ⟨q, 0, none⟩ = _ := (s1.blk 0 rfl).three.1
  have IX := Lib.hid (IndexF_c s1 1 rfl hn 2 w.heap.size id rfl hz)
  clear s0 s1 hr hs hz
  generalize s.l.length = n at *
  go_enter Tryz.func101, Tryz.ntmps101
  go_wp2_with fail
  refine IX.out.mono ?_
  rintro e w1 ⟨rfl, hb⟩
  have HB2 := Lib.hid (below_box hb)
  clear hb IX
  go_wp2_with fail
  go_ret
  exact ⟨rfl, HB2.out⟩
end
end
section
set_option linter.unusedVariables false
set_option maxRecDepth 100000
set_option maxHeartbeats 1000000
def fD (l : List Wt) (k : Nat) : Int := firstD (l.take k)
theorem fD_zero (l : List Wt) : fD l 0 = 4611686018427387904 := rfl
theorem fD_succ {l : List Wt} {k : Nat} {x : Wt} (h : l[k]? = some x) : fD l (k + 1) = if x.dead < fD l k then x.dead else fD l k := by
  have hk := (List.getElem?_eq_some_iff.1 h).1
  have e : l.take (k + 1) = l.take k ++ [x] := by
    rw [List.take_succ_eq_append_getElem hk]
    rw [(List.getElem?_eq_some_iff.1 h).2]
  unfold fD firstD
  rw [e, List.foldl_append]; rfl
theorem fD_bd (s : OSt) (hs : s.ok) : ∀ k, k ≤ s.l.length → 0 ≤ fD s.l k ∧ fD s.l k ≤ 4611686018427387904
  | 0, _ => by rw [fD_zero]; omega
  | k + 1, h => by
    obtain ⟨x, hx⟩ : ∃ x, s.l[k]? = some x := ⟨_, List.getElem?_eq_getElem (by omega)⟩
    have := hs.may x (List.mem_of_getElem? hx)
    have ih := fD_bd s hs k (by omega)
    rw [fD_succ hx]
    split
    · exact ⟨this.2.1.1, by omega⟩
    · exact ih
theorem fD_all (l : List Wt) : fD l l.length = firstD l := by unfold fD; rw [List.take_length]
section
variable {w0 w w' : World} {S0 S : Nat → Prop} {N L : List Res} {q : Nat} {s s' : OSt}
theorem first_c (H : St w0 S0 w L) (i : Nat) {A : Option Addr} {c n : Nat} (hn : n = s.l.length) (hq : L[i]? = some (BlkR q 210 #[.slice A n c, .int .i64 s.head, .bool s.up])) (j : Nat) (hj : L[j]? = some (LisR 114 3 (.slice A n c) n (ovs s.l))) (hs : s.ok) :
    Calls Tryz.prog 169 #[.pointer (some ⟨q, 0, none⟩)] w fun e w' => e = .returned (.int .u64 (firstD s.l)) ∧ Below w.heap.size w w' := by
  have q0 := (H.blk i hq).three.1
  have hlen := hs.len
  have hcap : n ≤ c ∧ c ≤ maxLen := by
    obtain ⟨A', c', hv, h1, h2⟩ := (H.lis j hj).shape
    injection hv with _ _ hv
    subst hv; exact ⟨h1, h2⟩
  unfold maxLen at hcap
  have HH := Lib.hid H
  have HS := Lib.hid hs
  have HN := Lib.hid hn
  have hn64 : n ≤ 64 := by omega
  clear H hs hn hlen
  go_enter Tryz.func169, Tryz.ntmps169
  go_wp2_with fail
  go_loopw [3, 11] (fun m t wr => ∃ k : Nat, k ≤ n ∧ t = .int .i64 (k : Int) ∧ m = .int .u64 (fD s.l k) ∧ Below w.heap.size w wr) (fun _ t _ => n - (intOf t).toNat)
  case atStart => exact ⟨0, by omega, rfl, by rw [fD_zero], Below.refl _ _⟩
  case round =>
  obtain ⟨k, hk, rfl, rfl, hb⟩ := hrel
  have sr := HH.out.stay hb
  have HB := Lib.hid hb
  have hbd := fD_bd s HS.out k (by rw [← HN.out]; exact hk)
  by_cases hkn : k < n
  · obtain ⟨x, hx⟩ : ∃ x, s.l[k]? = some x := ⟨_, List.getElem?_eq_getElem (by rw [← HN.out]; exact hkn)⟩
    obtain ⟨b, o, rfl, -, m0, m1, m2⟩ := want_at (sr.lis j hj) hx
    have t1 : decide ((k : Int) < (n : Int)) = true := decide_eq_true (by omega)
    have t1' : decide (k < n) = true := decide_eq_true hkn
    have HF := Lib.hid (fD_succ hx)
    have hx2 := (HS.out.may x (List.mem_of_getElem? hx)).2.1
    have HB2 := Lib.hid (hb.trans (((Below.refl wr.heap.size wr).alloc (Nat.le_refl _) (.cells #[.int .i64 x.id, .int .u64 x.dead, .int .i64 x.track] 114)).mono hb.size))
    by_cases hl : x.dead < fD s.l k
    · have HE := Lib.hid (show fD s.l (k + 1) = x.dead by rw [HF.out, if_pos hl])
      clear hx sr hb HF
      generalize fD s.l k = fk at *
      have e1 : (if fk < x.dead then fk else x.dead) = x.dead := if_neg (by omega)
      have e2 : (if x.dead < fk then x.dead else fk) = x.dead := if_pos hl
      go_wp2_with fail
      go_roundw
      case rel => exact ⟨k + 1, by omega, by go_num, by rw [HE.out], HB2.out⟩
      case measure => simp [intOf]; omega
    · have HE := Lib.hid (show fD s.l (k + 1) = fD s.l k by rw [HF.out, if_neg hl])
      clear hx sr hb HF
      generalize fD s.l k = fk at *
      have e1 : (if fk < x.dead then fk else x.dead) = fk := by split <;> omega
      have e2 : (if x.dead < fk then x.dead else fk) = fk := if_neg hl
      go_wp2_with fail
      go_roundw
      case rel => exact ⟨k + 1, by omega, by go_num, by rw [HE.out], HB2.out⟩
      case measure => simp [intOf]; omega
  · obtain rfl : k = n := by omega
    have t1 : decide ((k : Int) < (k : Int)) = false := decide_eq_false (by omega)
    have t1' : decide (k < k) = false := decide_eq_false (by omega)
    have HE := Lib.hid (show fD s.l k = firstD s.l by rw [HN.out, fD_all])
    clear sr hb
    generalize fD s.l k = fk at *
    go_wp2_with fail
    go_ret
    exact ⟨by rw [← HE.out]; rfl, HB.out⟩
/-- The closure of nearest. -/
theorem sought_c (x : Wt) (p1 p2 p3 : Nat) (head first : Int) (up : Bool) (w : World) (h1 : w.cell? ⟨p1, 0, none⟩ = some (.pointer (some ⟨q, 0, none⟩))) (h2 : w.cell? ⟨p2, 0, none⟩ = some (.bool up)) (h3 : w.cell? ⟨p3, 0, none⟩ = some (.int .u64 first))
    (hq : w.cell? ⟨q, 1, none⟩ = some (.int .i64 head)) (hx : mayW x) (hh : 0 ≤ head ∧ head ≤ 1048576) (b : Bool) (hb : b = decide (x.dead = first ∧ 0 ≤ off up head x.track)) :
    Calls Tryz.prog 171 #[x.v, .pointer (some ⟨p1, 0, none⟩), .pointer (some ⟨p2, 0, none⟩), .pointer (some ⟨p3, 0, none⟩)] w fun e w' => e = .returned (.tuple #[.int .i64 (off up head x.track), .bool b]) ∧ Below w.heap.size w w' := by
  obtain ⟨q0, q1, q2⟩ := (Blk.new w 114 #[.int .i64 x.id, .int .u64 x.dead, .int .i64 x.track]).three
  have k1 := cell_alloc h1 (.cells #[.int .i64 x.id, .int .u64 x.dead, .int .i64 x.track] 114)
  have k2 := cell_alloc h2 (.cells #[.int .i64 x.id, .int .u64 x.dead, .int .i64 x.track] 114)
  have k3 := cell_alloc h3 (.cells #[.int .i64 x.id, .int .u64 x.dead, .int .i64 x.track] 114)
  have kq := cell_alloc hq (.cells #[.int .i64 x.id, .int .u64 x.dead, .int .i64 x.track] 114)
  unfold Wt.v
  have hx3 := hx.2.2
  have AB := Lib.hid ((Below.refl w.heap.size w).alloc (Nat.le_refl _) (.cells #[.int .i64 x.id, .int .u64 x.dead, .int .i64 x.track] 114))
  have HBB := Lib.hid hb
  clear h1 h2 h3 hq hb hx
  have hw : IntKind.i64.wrap (x.track - head) = x.track - head := IntWalk.i64_in _ ⟨by omega, by omega⟩
  cases up with
  | true =>
    by_cases hd : x.dead = first
    · subst hd
      have d1 : (x.dead == x.dead) = true := beq_self_eq_true _
      by_cases ho : 0 ≤ x.track - head
      · have d2 : decide (0 ≤ x.track - head) = true := decide_eq_true ho
        have d3 : decide (head ≤ x.track) = true := decide_eq_true (by omega)
        have HR := Lib.hid (show b = true from by rw [HBB.out]; exact decide_eq_true ⟨rfl, by show 0 ≤ x.track - head; omega⟩)
        have HO := Lib.hid (show off true head x.track = x.track - head from by simp only [off]; rfl)
        clear HBB
        go_enter Tryz.func171, Tryz.ntmps171
        go_wp2_with fail
        go_quiet (fail)
        go_wp2_with fail
        go_ret2
        exact ⟨by rw [HR.out, HO.out]; rfl, below_drewN AB.out _⟩
      · have d2 : decide (0 ≤ x.track - head) = false := decide_eq_false ho
        have d3 : decide (head ≤ x.track) = false := decide_eq_false (by omega)
        have HR := Lib.hid (show b = false from by rw [HBB.out]; exact decide_eq_false (fun h => ho (by have h2 : 0 ≤ x.track - head := h.2; omega)))
        have HO := Lib.hid (show off true head x.track = x.track - head from by simp only [off]; rfl)
        clear HBB
        go_enter Tryz.func171, Tryz.ntmps171
        go_wp2_with fail
        go_quiet (fail)
        go_wp2_with fail
        go_ret2
        exact ⟨by rw [HR.out, HO.out]; rfl, below_drewN AB.out _⟩
    · have d1 : (x.dead == first) = false := beq_eq_false_iff_ne.2 hd
      have HR := Lib.hid (show b = false from by rw [HBB.out]; exact decide_eq_false (fun h => hd h.1))
      have HO := Lib.hid (show off true head x.track = x.track - head from by simp only [off]; rfl)
      clear HBB
      go_enter Tryz.func171, Tryz.ntmps171
      go_wp2_with fail
      go_quiet (fail)
      go_wp2_with fail
      go_ret2
      exact ⟨by rw [HR.out, HO.out]; rfl, below_drewN AB.out _⟩
  | false =>
    by_cases hd : x.dead = first
    · subst hd
      have d1 : (x.dead == x.dead) = true := beq_self_eq_true _
      by_cases ho : 0 ≤ -(x.track - head)
      · have d2 : decide (0 ≤ -(x.track - head)) = true := decide_eq_true ho
        have d3 : decide (x.track ≤ head) = true := decide_eq_true (by omega)
        have d4 : decide (x.track - head ≤ 0) = true := decide_eq_true (by omega)
        have HR := Lib.hid (show b = true from by rw [HBB.out]; exact decide_eq_true ⟨rfl, by show 0 ≤ head - x.track; omega⟩)
        have HO := Lib.hid (show off false head x.track = -(x.track - head) from by simp only [off]; show head - x.track = _; omega)
        clear HBB
        go_enter Tryz.func171, Tryz.ntmps171
        go_wp2_with fail
        go_quiet (fail)
        go_wp2_with fail
        go_ret2
        exact ⟨by rw [HR.out, HO.out]; rfl, below_drewN AB.out _⟩
      · have d2 : decide (0 ≤ -(x.track - head)) = false := decide_eq_false ho
        have d3 : decide (x.track ≤ head) = false := decide_eq_false (by omega)
        have d4 : decide (x.track - head ≤ 0) = false := decide_eq_false (by omega)
        have HR := Lib.hid (show b = false from by rw [HBB.out]; exact decide_eq_false (fun h => ho (by have h2 : 0 ≤ head - x.track := h.2; omega)))
        have HO := Lib.hid (show off false head x.track = -(x.track - head) from by simp only [off]; show head - x.track = _; omega)
        clear HBB
        go_enter Tryz.func171, Tryz.ntmps171
        go_wp2_with fail
        go_quiet (fail)
        go_wp2_with fail
        go_ret2
        exact ⟨by rw [HR.out, HO.out]; rfl, below_drewN AB.out _⟩
    · have d1 : (x.dead == first) = false := beq_eq_false_iff_ne.2 hd
      have HR := Lib.hid (show b = false from by rw [HBB.out]; exact decide_eq_false (fun h => hd h.1))
      have HO := Lib.hid (show off false head x.track = -(x.track - head) from by simp only [off]; show head - x.track = _; omega)
      clear HBB
      go_enter Tryz.func171, Tryz.ntmps171
      go_wp2_with fail
      go_quiet (fail)
      go_wp2_with fail
      go_ret2
      exact ⟨by rw [HR.out, HO.out]; rfl, below_drewN AB.out _⟩
end
end
section
set_option linter.unusedVariables false
set_option maxRecDepth 100000
set_option maxHeartbeats 1000000
def nw (r : Option Wt) : Wt := r.getD ⟨0, 0, 0⟩
def noff (s : OSt) (up : Bool) (r : Option Wt) : Int := match r with | none => 0 | some x => off up s.head x.track
theorem nearStep_none {s : OSt} {up : Bool} {x : Wt} (hc : cand s up x) : nearStep s up none x = some x := by unfold nearStep; rw [if_pos hc]
theorem nearStep_some {s : OSt} {up : Bool} {x : Wt} (hc : cand s up x) (v : Wt) : nearStep s up (some v) x = if nearer s up x v then some x else some v := by unfold nearStep; rw [if_pos hc]
section
variable {w0 w w' : World} {S0 S : Nat → Prop} {N L : List Res} {q : Nat} {s s' : OSt}
/-- What the loop over the requests needs to know: the queue, and the closure's boxes. -/
def NearL (q : Nat) (A : Option Addr) (c : Nat) (s : OSt) (p1 p2 p3 : Nat) (up : Bool) : List Res :=
  OQL q A c s ++ [BlkR p1 103 #[.pointer (some ⟨q, 0, none⟩)], BlkR p2 4 #[.bool up], BlkR p3 34 #[.int .u64 (firstD s.l)]]
theorem least_c {A : Option Addr} {c p1 p2 p3 : Nat} {up : Bool} (H : St w0 S0 w (NearL q A c s p1 p2 p3 up)) (hs : s.ok) {r : Option Wt} (hr : NearP s up s.l.length r) :
    Calls Tryz.prog 170 #[.pointer (some ⟨q, 0, none⟩), .func (Fn.func 171) #[] #[.pointer (some ⟨p1, 0, none⟩), .pointer (some ⟨p2, 0, none⟩), .pointer (some ⟨p3, 0, none⟩)]] w
      fun e w' => e = .returned (.tuple #[(nw r).v, .bool r.isSome]) ∧ Below w.heap.size w w' := by
  obtain ⟨n, hn⟩ : ∃ n, n = s.l.length := ⟨_, rfl⟩
  have h1 : (NearL q A c s p1 p2 p3 up)[1]? = some (LisR 114 3 (.slice A n c) n (ovs s.l)) := by rw [hn]; rfl
  have hcap : n ≤ c ∧ c ≤ maxLen := by
    obtain ⟨A', c', hv, h1, h2⟩ := (H.lis 1 h1).shape
    injection hv with _ _ hv
    subst hv; exact ⟨h1, h2⟩
  unfold maxLen at hcap
  have hn64 : n ≤ 64 := by rw [hn]; exact hs.len
  have HH := Lib.hid H
  have HS := Lib.hid hs
  have HN := Lib.hid hn
  have HR := Lib.hid hr
  have HL1 := Lib.hid h1
  have sz : St w None ((w.alloc (.cells #[.int .i64 0, .int .u64 0, .int .i64 0] 114)).alloc (.cells #[.int .i64 0, .int .u64 0, .int .i64 0] 114)) [BlkR w.heap.size 114 #[.int .i64 0, .int .u64 0, .int .i64 0], BlkR (w.heap.size + 1) 114 #[.int .i64 0, .int .u64 0, .int .i64 0]] := by
    have t := ((St.begin w).box 114 #[.int .i64 0, .int .u64 0, .int .i64 0]).box 114 #[.int .i64 0, .int .u64 0, .int .i64 0]
    rw [show (w.alloc (.cells #[.int .i64 0, .int .u64 0, .int .i64 0] 114)).heap.size = w.heap.size + 1 by simp] at t
    exact t
  have q0 : ((w.alloc (.cells #[.int .i64 0, .int .u64 0, .int .i64 0] 114)).alloc (.cells #[.int .i64 0, .int .u64 0, .int .i64 0] 114)).cell? ⟨q, 0, none⟩ = some (.slice A n c) := by rw [hn]; exact ((HH.out.stay sz.below).blk 0 rfl).three.1
  have SZ := Lib.hid sz
  clear H hs hn hr h1 sz
  go_enter Tryz.func170, Tryz.ntmps170
  go_wp2_with fail
  obtain ⟨g4, hg4⟩ : ∃ g, g = w.heap.size := ⟨_, rfl⟩
  go_loopw [7, 8, 18] (fun o f t wr => ∃ (k : Nat) (r : Option Wt), k ≤ n ∧ t = .int .i64 (k : Int) ∧ o = .int .i64 (noff s up r) ∧ f = .bool r.isSome ∧ NearP s up k r ∧ St w None wr [BlkR w.heap.size 114 #[.int .i64 0, .int .u64 0, .int .i64 0], BlkR (w.heap.size + 1) 114 (nw r).cells]) (fun _ _ t _ => n - (intOf t).toNat)
  case atStart => exact ⟨0, none, by omega, rfl, rfl, rfl, fun i x h => by omega, SZ.out⟩
  case round =>
  clear SZ q0
  obtain ⟨k, r', hk, rfl, rfl, rfl, hnp, sr⟩ := hrel
  by_cases hkn : k < n
  · obtain ⟨x, hx⟩ : ∃ x, s.l[k]? = some x := ⟨_, List.getElem?_eq_getElem (by rw [← HN.out]; exact hkn)⟩
    have so := HH.out.stay sr.below
    obtain ⟨b, o, rfl, -, m0, m1, m2⟩ := want_at (so.lis 1 HL1.out) hx
    have t1 : decide ((k : Int) < (n : Int)) = true := decide_eq_true (by omega)
    have t1' : decide (k < n) = true := decide_eq_true hkn
    have hmx := HS.out.may x (List.mem_of_getElem? hx)
    -- the copy, and what the closure tells of it
    have sb : St w None (wr.alloc (.cells #[.int .i64 x.id, .int .u64 x.dead, .int .i64 x.track] 114)) [BlkR w.heap.size 114 #[.int .i64 0, .int .u64 0, .int .i64 0], BlkR (w.heap.size + 1) 114 (nw r').cells, BlkR wr.heap.size 114 #[.int .i64 x.id, .int .u64 x.dead, .int .i64 x.track]] := St.box (L := [_, _]) sr _ _
    have sx := HH.out.stay sb.below
    have CL := Lib.hid (fun b hb => looks (sought_c x p1 p2 p3 s.head (firstD s.l) up _ (sx.blk 2 rfl).one (sx.blk 3 rfl).one (sx.blk 4 rfl).one (sx.blk 0 rfl).three.2.1 hmx HS.out.hd b hb) sb)
    unfold Wt.v at CL
    obtain ⟨c0, c1, c2⟩ := (sb.blk 2 rfl).three
    have HNP := Lib.hid (hnp.step hx)
    clear hnp so sx sb hmx sr
    by_cases hc : cand s up x
    · have C1 := Lib.hid (CL.out true (decide_eq_true hc).symm)
      have HE0 := Lib.hid (nearStep_none hc)
      have HE1 := Lib.hid (nearStep_some hc)
      clear CL hc hx
      cases r' with
      | none =>
        have HNQ := Lib.hid (show NearP s up (k + 1) (some x) from by have h := HNP.out; rw [HE0.out] at h; exact h)
        clear HE0 HE1
        go_wp2_with fail
        refine C1.out.mono ?_
        rintro e w1 ⟨rfl, s1⟩
        obtain ⟨e0, e1, e2⟩ := (s1.blk 2 rfl).three
        have f0 := (s1.blk 1 rfl).frozen 0
        have f1 := (s1.blk 1 rfl).frozen 1
        have f2 := (s1.blk 1 rfl).frozen 2
        obtain ⟨d0, d1, d2⟩ : _ ∧ _ ∧ _ := (s1.blk 1 rfl).three
        have S2 := Lib.hid (show St w None _ [BlkR w.heap.size 114 #[.int .i64 0, .int .u64 0, .int .i64 0], BlkR (w.heap.size + 1) 114 (nw (some x)).cells] from (((s1.set_ 1 rfl 0 (.int .i64 x.id)).set_ 1 rfl 1 (.int .u64 x.dead)).set_ 1 rfl 2 (.int .i64 x.track)).take 2)
        clear C1 s1 c0 c1 c2
        go_wp2_with fail
        go_roundw
        case rel => exact ⟨k + 1, some x, by omega, by go_num, rfl, rfl, HNQ.out, S2.out⟩
        case measure => simp [intOf]; omega
      | some v =>
        have hv : noff s up (some v) = off up s.head v.track := rfl
        by_cases h1 : off up s.head x.track < off up s.head v.track
        · have HNQ := Lib.hid (show NearP s up (k + 1) (some x) from by
            have h := HNP.out; rw [HE1.out, if_pos (show nearer s up x v from Or.inl h1)] at h; exact h)
          have z1 : decide (off up s.head x.track < noff s up (some v)) = true := decide_eq_true h1
          clear HE0 HE1 h1 hv
          go_wp2_with fail
          refine C1.out.mono ?_
          rintro e w1 ⟨rfl, s1⟩
          obtain ⟨e0, e1, e2⟩ := (s1.blk 2 rfl).three
          have f0 := (s1.blk 1 rfl).frozen 0
          have f1 := (s1.blk 1 rfl).frozen 1
          have f2 := (s1.blk 1 rfl).frozen 2
          obtain ⟨d0, d1, d2⟩ : _ ∧ _ ∧ _ := (s1.blk 1 rfl).three
          have S2 := Lib.hid (show St w None _ [BlkR w.heap.size 114 #[.int .i64 0, .int .u64 0, .int .i64 0], BlkR (w.heap.size + 1) 114 (nw (some x)).cells] from (((s1.set_ 1 rfl 0 (.int .i64 x.id)).set_ 1 rfl 1 (.int .u64 x.dead)).set_ 1 rfl 2 (.int .i64 x.track)).take 2)
          clear C1 s1 c0 c1 c2
          go_wp2_with fail
          go_roundw
          case rel => exact ⟨k + 1, some x, by omega, by go_num, rfl, rfl, HNQ.out, S2.out⟩
          case measure => simp [intOf]; omega
        · have z1 : decide (off up s.head x.track < noff s up (some v)) = false := decide_eq_false h1
          by_cases h2 : off up s.head x.track = off up s.head v.track
          · have HOV := Lib.hid (show off up s.head x.track = noff s up (some v) from h2)
            obtain ⟨ov, hov⟩ : ∃ ov, ov = noff s up (some v) := ⟨_, rfl⟩
            have HOW := Lib.hid (show noff s up (some v) = ov from hov.symm)
            have HOX := Lib.hid (show off up s.head x.track = ov from HOV.out.trans hov.symm)
            have z3' := z1
            clear z1 z3'
            rw [HOX.out] at C1
            have z1 : decide (ov < ov) = false := decide_eq_false (by omega)
            have z2 : (ov == ov) = true := beq_self_eq_true _
            by_cases h3 : x.id < v.id
            · have HNQ := Lib.hid (show NearP s up (k + 1) (some x) from by
                have h := HNP.out; rw [HE1.out, if_pos (show nearer s up x v from Or.inr ⟨h2, h3⟩)] at h; exact h)
              have z3 : decide (x.id < (nw (some v)).id) = true := decide_eq_true h3
              clear HE0 HE1 h1 h2 h3 hv hov HOV
              rw [HOW.out]
              go_wp2_with fail
              refine C1.out.mono ?_
              rintro e w1 ⟨rfl, s1⟩
              obtain ⟨e0, e1, e2⟩ := (s1.blk 2 rfl).three
              have f0 := (s1.blk 1 rfl).frozen 0
              have f1 := (s1.blk 1 rfl).frozen 1
              have f2 := (s1.blk 1 rfl).frozen 2
              obtain ⟨d0, d1, d2⟩ : _ ∧ _ ∧ _ := (s1.blk 1 rfl).three
              have S2 := Lib.hid (show St w None _ [BlkR w.heap.size 114 #[.int .i64 0, .int .u64 0, .int .i64 0], BlkR (w.heap.size + 1) 114 (nw (some x)).cells] from (((s1.set_ 1 rfl 0 (.int .i64 x.id)).set_ 1 rfl 1 (.int .u64 x.dead)).set_ 1 rfl 2 (.int .i64 x.track)).take 2)
              clear C1 s1 c0 c1 c2
              go_wp2_with fail
              go_roundw
              case rel => exact ⟨k + 1, some x, by omega, by go_num, by show Value.int .i64 ov = .int .i64 (off up s.head x.track); rw [HOX.out], rfl, HNQ.out, S2.out⟩
              case measure => simp [intOf]; omega
            · have HNQ := Lib.hid (show NearP s up (k + 1) (some v) from by
                have h := HNP.out; rw [HE1.out, if_neg (show ¬ nearer s up x v by unfold nearer; omega)] at h; exact h)
              have z3 : decide (x.id < (nw (some v)).id) = false := decide_eq_false h3
              clear HE0 HE1 h1 h2 h3 hv hov HOV
              rw [HOW.out]
              go_wp2_with fail
              refine C1.out.mono ?_
              rintro e w1 ⟨rfl, s1⟩
              obtain ⟨e0, e1, e2⟩ := (s1.blk 2 rfl).three
              obtain ⟨d0, d1, d2⟩ : _ ∧ _ ∧ _ := (s1.blk 1 rfl).three
              have S2 := Lib.hid (show St w None w1 [BlkR w.heap.size 114 #[.int .i64 0, .int .u64 0, .int .i64 0], BlkR (w.heap.size + 1) 114 (nw (some v)).cells] from s1.take 2)
              clear C1 s1 c0 c1 c2
              go_wp2_with fail
              go_roundw
              case rel => exact ⟨k + 1, some v, by omega, by go_num, by rw [HOW.out], rfl, HNQ.out, S2.out⟩
              case measure => simp [intOf]; omega
          · have z2 : (off up s.head x.track == noff s up (some v)) = false := beq_eq_false_iff_ne.2 h2
            have HNQ := Lib.hid (show NearP s up (k + 1) (some v) from by
              have h := HNP.out; rw [HE1.out, if_neg (show ¬ nearer s up x v by unfold nearer; omega)] at h; exact h)
            clear HE0 HE1 h1 h2 hv
            go_wp2_with fail
            refine C1.out.mono ?_
            rintro e w1 ⟨rfl, s1⟩
            obtain ⟨e0, e1, e2⟩ := (s1.blk 2 rfl).three
            obtain ⟨d0, d1, d2⟩ : _ ∧ _ ∧ _ := (s1.blk 1 rfl).three
            have S2 := Lib.hid (show St w None w1 [BlkR w.heap.size 114 #[.int .i64 0, .int .u64 0, .int .i64 0], BlkR (w.heap.size + 1) 114 (nw (some v)).cells] from s1.take 2)
            clear C1 s1 c0 c1 c2
            go_wp2_with fail
            go_roundw
            case rel => exact ⟨k + 1, some v, by omega, by go_num, rfl, rfl, HNQ.out, S2.out⟩
            case measure => simp [intOf]; omega
    · have C1 := Lib.hid (CL.out false (decide_eq_false hc).symm)
      have HE := Lib.hid (show nearStep s up r' x = r' by unfold nearStep; rw [if_neg hc])
      rw [HE.out] at HNP
      clear HE hc CL hx
      go_wp2_with fail
      refine C1.out.mono ?_
      rintro e w1 ⟨rfl, s1⟩
      have S1 := Lib.hid (show St w None w1 [BlkR w.heap.size 114 #[.int .i64 0, .int .u64 0, .int .i64 0], BlkR (w.heap.size + 1) 114 (nw r').cells] from s1.take 2)
      clear C1 s1
      go_wp2_with fail
      go_roundw
      case rel => exact ⟨k + 1, r', by omega, by go_num, rfl, rfl, HNP.out, S1.out⟩
      case measure => simp [intOf]; omega
  · obtain rfl : k = n := by omega
    have t1 : decide ((k : Int) < (k : Int)) = false := decide_eq_false (by omega)
    have t1' : decide (k < k) = false := decide_eq_false (by omega)
    obtain rfl : r = r' := NearP.uniq HS.out HR.out (by rw [← HN.out]; exact hnp)
    obtain ⟨d0, d1, d2⟩ : _ ∧ _ ∧ _ := (sr.blk 1 rfl).three
    obtain ⟨c0, c1, c2⟩ := (sr.blk 0 rfl).three
    have f0 := (sr.blk 0 rfl).frozen 0
    have f1 := (sr.blk 0 rfl).frozen 1
    have f2 := (sr.blk 0 rfl).frozen 2
    have s2 := ((sr.set_ 0 rfl 0 (.int .i64 (nw r).id)).set_ 0 rfl 1 (.int .u64 (nw r).dead)).set_ 0 rfl 2 (.int .i64 (nw r).track)
    obtain ⟨k0, k1, k2⟩ : _ ∧ _ ∧ _ := (s2.blk 0 rfl).three
    have S2 := Lib.hid s2
    clear sr s2 hnp HR HS HH
    go_wp2_with fail
    refine bodyPost_ret (v := .tuple #[(nw r).v, .bool r.isSome]) ?_ rfl ⟨rfl, S2.out.below⟩
    simp [results, Tryz.results170, go_sem, k0, k1, k2, Wt.v]
end
end
section
set_option linter.unusedVariables false
set_option maxRecDepth 100000
set_option maxHeartbeats 1000000
section
variable {w0 w w' : World} {S0 S : Nat → Prop} {N L : List Res} {q : Nat} {s s' : OSt}
theorem nearest_c (h : OQR q s w S) (hs : s.ok) (up : Bool) {r : Option Wt} (hr : NearP s up s.l.length r) :
    Calls Tryz.prog 149 #[.pointer (some ⟨q, 0, none⟩), .bool up] w fun e w' => e = .returned (.tuple #[(nw r).v, .bool r.isSome]) ∧ Below w.heap.size w w' := by
  obtain ⟨A, c, hh⟩ := h
  have s0 : St w S w (OQL q A c s) := St.start hh
  -- boxes of the arguments, and of the result
  have u0 := (((St.begin w).box 103 #[.pointer (some ⟨q, 0, none⟩)]).box 4 #[.bool up]).box 114 #[.int .i64 0, .int .u64 0, .int .i64 0]
  rw [show ((w.alloc (.cells #[.pointer (some ⟨q, 0, none⟩)] 103)).alloc (.cells #[.bool up] 4)).heap.size = w.heap.size + 1 + 1 by simp, show (w.alloc (.cells #[.pointer (some ⟨q, 0, none⟩)] 103)).heap.size = w.heap.size + 1 by simp] at u0
  have u1 : St w None _ [BlkR w.heap.size 103 #[.pointer (some ⟨q, 0, none⟩)], BlkR (w.heap.size + 1) 4 #[.bool up], BlkR (w.heap.size + 1 + 1) 114 #[.int .i64 0, .int .u64 0, .int .i64 0]] := u0
  have p0 := (u1.blk 0 rfl).one
  have FC := Lib.hid (looks (first_c (s0.stay u1.below) 0 rfl rfl 1 rfl hs) u1)
  have HS := Lib.hid hs
  have HR := Lib.hid hr
  have S0' := Lib.hid s0
  clear u0 u1 s0 hh hs hr
  go_enter Tryz.func149, Tryz.ntmps149
  go_wp2_with fail
  refine FC.out.mono ?_
  rintro e w1 ⟨rfl, u2⟩
  have u3 : St w None (w1.alloc (.cells #[.int .u64 (firstD s.l)] 34)) [BlkR w.heap.size 103 #[.pointer (some ⟨q, 0, none⟩)], BlkR (w.heap.size + 1) 4 #[.bool up], BlkR (w.heap.size + 1 + 1) 114 #[.int .i64 0, .int .u64 0, .int .i64 0], BlkR w1.heap.size 34 #[.int .u64 (firstD s.l)]] := St.box (L := [_, _, _]) u2 _ _
  have p1 := (u3.blk 0 rfl).one
  have j3 : St w S (w1.alloc (.cells #[.int .u64 (firstD s.l)] 34)) (NearL q A c s w.heap.size (w.heap.size + 1) w1.heap.size up) := (S0'.out.join u3).drop 4 (by simp [OQL])
  have LC := Lib.hid (looks (least_c j3 HS.out HR.out) u3)
  clear u2 u3 j3 p0 FC
  go_wp2_with fail
  refine LC.out.mono ?_
  rintro e w2 ⟨rfl, u4⟩
  have f0 := (u4.blk 2 rfl).frozen 0
  have f1 := (u4.blk 2 rfl).frozen 1
  have f2 := (u4.blk 2 rfl).frozen 2
  obtain ⟨c0, c1, c2⟩ : _ ∧ _ ∧ _ := (u4.blk 2 rfl).three
  have u5 := ((u4.set_ 2 rfl 0 (.int .i64 (nw r).id)).set_ 2 rfl 1 (.int .u64 (nw r).dead)).set_ 2 rfl 2 (.int .i64 (nw r).track)
  obtain ⟨k0, k1, k2⟩ : _ ∧ _ ∧ _ := (u5.blk 2 rfl).three
  have U5 := Lib.hid u5
  clear u4 u5 LC p1
  unfold Wt.v
  go_wp2_with fail
  refine bodyPost_ret (v := .tuple #[(nw r).v, .bool r.isSome]) ?_ rfl ⟨rfl, U5.out.below⟩
  simp [results, Tryz.results149, go_sem, k0, k1, k2, Wt.v]
theorem nearest_o (H : St w0 S0 w L) (K : St w S w [OQR q s]) (hs : s.ok) (up : Bool) {r : Option Wt} (hr : NearP s up s.l.length r) {w1 : World} (hb : Below w.heap.size w w1) {L1 : List Res} (U : St w None w1 L1) :
    Calls Tryz.prog 149 #[.pointer (some ⟨q, 0, none⟩), .bool up] w1 fun e w' => e = .returned (.tuple #[(nw r).v, .bool r.isSome]) ∧ St w None w' L1 := by
  obtain ⟨T, hT⟩ := (K.stay hb).get 0 rfl
  exact looks (nearest_c hT hs up hr) U
/-- The next one. -/
theorem next_c (h : OQR q s w S) (hs : s.ok) {x : Wt} {up : Bool} {f : Int} (hn : NextP s x up f) :
    Calls Tryz.prog 114 #[.pointer (some ⟨q, 0, none⟩)] w fun e w' => e = .returned (.tuple #[x.v, .bool up, .int .i64 f]) ∧ Below w.heap.size w w' := by
  have K : St w S w [OQR q s] := St.start (Star.one (OQR.ok q s) h)
  obtain ⟨A, c, hh⟩ := h
  have s0 : St w S w (OQL q A c s) := St.start hh
  have u0 : St w None _ [BlkR w.heap.size 114 #[.int .i64 0, .int .u64 0, .int .i64 0]] := (St.begin w).box 114 #[.int .i64 0, .int .u64 0, .int .i64 0]
  have q2 := ((s0.stay u0.below).blk 0 rfl).three.2.2
  obtain ⟨r1, hr1⟩ := nearP_ex s s.up s.l.length (Nat.le_refl _)
  obtain ⟨r2, hr2⟩ := nearP_ex s (!s.up) s.l.length (Nat.le_refl _)
  have N1 := Lib.hid (nearest_o s0 K hs s.up hr1 u0.below u0)
  have N2 := Lib.hid (fun (w1 : World) (U : St w None w1 [BlkR w.heap.size 114 (nw r1).cells]) => nearest_o s0 K hs (!s.up) hr2 U.below U)
  obtain ⟨f0, f1, f2⟩ : (w.alloc (.cells #[.int .i64 0, .int .u64 0, .int .i64 0] 114)).frozen? ⟨w.heap.size, 0, none⟩ = false ∧ (w.alloc (.cells #[.int .i64 0, .int .u64 0, .int .i64 0] 114)).frozen? ⟨w.heap.size, 1, none⟩ = false ∧ (w.alloc (.cells #[.int .i64 0, .int .u64 0, .int .i64 0] 114)).frozen? ⟨w.heap.size, 2, none⟩ = false := ⟨(u0.blk 0 rfl).frozen 0, (u0.blk 0 rfl).frozen 1, (u0.blk 0 rfl).frozen 2⟩
  have HS := Lib.hid hs
  have HN := Lib.hid hn
  have H1 := Lib.hid hr1
  have H2 := Lib.hid hr2
  clear u0 s0 hh hs hn hr1 hr2 K f0 f1 f2
  generalize hup : s.up = sup at *
  have HUP := Lib.hid hup
  clear hup
  go_enter Tryz.func114, Tryz.ntmps114
  go_wp2_with fail
  refine N1.out.mono ?_
  rintro e w1 ⟨rfl, u1⟩
  have f0 := (u1.blk 0 rfl).frozen 0
  have f1 := (u1.blk 0 rfl).frozen 1
  have f2 := (u1.blk 0 rfl).frozen 2
  obtain ⟨c0, c1, c2⟩ : _ ∧ _ ∧ _ := (u1.blk 0 rfl).three
  cases r1 with
  | some y =>
    obtain ⟨rfl, rfl, rfl⟩ : x = y ∧ up = sup ∧ f = 0 := HN.out.uniq HS.out (Or.inr (Or.inl ⟨by rw [HUP.out]; exact H1.out, HUP.out.symm, rfl⟩))
    rw [show nw (some x) = x from rfl]
    have u2 : St w None _ [BlkR w.heap.size 114 (x).cells] := ((u1.set_ 0 rfl 0 (.int .i64 (x).id)).set_ 0 rfl 1 (.int .u64 (x).dead)).set_ 0 rfl 2 (.int .i64 (x).track)
    have g0 := (u2.blk 0 rfl).frozen 0
    have g1 := (u2.blk 0 rfl).frozen 1
    have g2 := (u2.blk 0 rfl).frozen 2
    obtain ⟨k0, k1, k2⟩ : _ ∧ _ ∧ _ := (u2.blk 0 rfl).three
    have u3 : St w None _ [BlkR w.heap.size 114 (x).cells] := ((u2.set_ 0 rfl 0 (.int .i64 (x).id)).set_ 0 rfl 1 (.int .u64 (x).dead)).set_ 0 rfl 2 (.int .i64 (x).track)
    obtain ⟨l0, l1, l2⟩ : _ ∧ _ ∧ _ := (u3.blk 0 rfl).three
    have U3 := Lib.hid u3
    clear u1 u2 u3 N1 N2 HN H1 H2
    unfold Wt.v
    go_wp2_with fail
    refine bodyPost_ret (v := .tuple #[x.v, .bool up, .int .i64 0]) ?_ rfl ⟨rfl, U3.out.below⟩
    simp [results, Tryz.results114, go_sem, l0, l1, l2, Wt.v]
  | none =>
    have hz : nw none = (⟨0, 0, 0⟩ : Wt) := rfl
    rw [hz]
    have u2 : St w None _ [BlkR w.heap.size 114 (nw none).cells] := ((u1.set_ 0 rfl 0 (.int .i64 0)).set_ 0 rfl 1 (.int .u64 0)).set_ 0 rfl 2 (.int .i64 0)
    have D2 := Lib.hid (N2.out _ u2)
    clear u2 N1 N2 u1
    unfold Wt.v
    dsimp only
    go_wp2_with fail
    refine D2.out.mono ?_
    rintro e w2 ⟨rfl, u1⟩
    have u1 : St w None w2 [BlkR w.heap.size 114 #[.int .i64 0, .int .u64 0, .int .i64 0]] := u1
    clear D2 f0 f1 f2 c0 c1 c2
    have f0 := (u1.blk 0 rfl).frozen 0
    have f1 := (u1.blk 0 rfl).frozen 1
    have f2 := (u1.blk 0 rfl).frozen 2
    obtain ⟨c0, c1, c2⟩ : _ ∧ _ ∧ _ := (u1.blk 0 rfl).three
    cases r2 with
    | some y =>
      obtain ⟨rfl, rfl, rfl⟩ : x = y ∧ up = (!sup) ∧ f = 0 := HN.out.uniq HS.out (Or.inr (Or.inr ⟨by rw [HUP.out]; exact H1.out, by rw [HUP.out]; exact H2.out, by rw [HUP.out], rfl⟩))
      rw [show nw (some x) = x from rfl]
      have u2 : St w None _ [BlkR w.heap.size 114 (x).cells] := ((u1.set_ 0 rfl 0 (.int .i64 (x).id)).set_ 0 rfl 1 (.int .u64 (x).dead)).set_ 0 rfl 2 (.int .i64 (x).track)
      have g0 := (u2.blk 0 rfl).frozen 0
      have g1 := (u2.blk 0 rfl).frozen 1
      have g2 := (u2.blk 0 rfl).frozen 2
      obtain ⟨k0, k1, k2⟩ : _ ∧ _ ∧ _ := (u2.blk 0 rfl).three
      have u3 : St w None _ [BlkR w.heap.size 114 (x).cells] := ((u2.set_ 0 rfl 0 (.int .i64 (x).id)).set_ 0 rfl 1 (.int .u64 (x).dead)).set_ 0 rfl 2 (.int .i64 (x).track)
      obtain ⟨l0, l1, l2⟩ : _ ∧ _ ∧ _ := (u3.blk 0 rfl).three
      have U3 := Lib.hid u3
      clear u1 u2 u3 HN H1 H2
      unfold Wt.v
      go_wp2_with fail
      refine bodyPost_ret (v := .tuple #[x.v, .bool (!sup), .int .i64 0]) ?_ rfl ⟨rfl, U3.out.below⟩
      simp [results, Tryz.results114, go_sem, l0, l1, l2, Wt.v]
    | none =>
      rw [hz]
      obtain ⟨rfl, rfl, rfl⟩ : x = ⟨0, 0, 0⟩ ∧ up = false ∧ f = 5 := by
        rcases HN.out with ⟨_, h1, h2, h3⟩ | ⟨h1, _, _⟩ | ⟨_, h1, _, _⟩
        · exact ⟨h1, h2, h3⟩
        · have := NearP.uniq HS.out h1 (by rw [HUP.out]; exact H1.out); cases this
        · have := NearP.uniq HS.out h1 (by rw [HUP.out]; exact H2.out); cases this
      have u2 : St w None _ [BlkR w.heap.size 114 ((⟨0, 0, 0⟩ : Wt)).cells] := ((u1.set_ 0 rfl 0 (.int .i64 ((⟨0, 0, 0⟩ : Wt)).id)).set_ 0 rfl 1 (.int .u64 ((⟨0, 0, 0⟩ : Wt)).dead)).set_ 0 rfl 2 (.int .i64 ((⟨0, 0, 0⟩ : Wt)).track)
      have g0 := (u2.blk 0 rfl).frozen 0
      have g1 := (u2.blk 0 rfl).frozen 1
      have g2 := (u2.blk 0 rfl).frozen 2
      obtain ⟨k0, k1, k2⟩ : _ ∧ _ ∧ _ := (u2.blk 0 rfl).three
      have u3 : St w None _ [BlkR w.heap.size 114 ((⟨0, 0, 0⟩ : Wt)).cells] := ((u2.set_ 0 rfl 0 (.int .i64 ((⟨0, 0, 0⟩ : Wt)).id)).set_ 0 rfl 1 (.int .u64 ((⟨0, 0, 0⟩ : Wt)).dead)).set_ 0 rfl 2 (.int .i64 ((⟨0, 0, 0⟩ : Wt)).track)
      obtain ⟨l0, l1, l2⟩ : _ ∧ _ ∧ _ := (u3.blk 0 rfl).three
      have U3 := Lib.hid u3
      clear u1 u2 u3 HN H1 H2
      unfold Wt.v
      dsimp only at *
      go_wp2_with fail
      refine bodyPost_ret (v := .tuple #[(⟨0, 0, 0⟩ : Wt).v, .bool false, .int .i64 5]) ?_ rfl ⟨rfl, U3.out.below⟩
      simp [results, Tryz.results114, go_sem, l0, l1, l2, Wt.v]
end
end
section
set_option linter.unusedVariables false
set_option maxRecDepth 100000
set_option maxHeartbeats 2000000
theorem Tryz.infoWant : (Tryz.prog.info? 114).map (fun i => (i.zero, i.size, i.bytes)) = some (some (.agg #[.int .i64 0, .int .u64 0, .int .i64 0]), 3, 24) := by kernel_rfl
theorem info3o {P : Program} {t : TypeId} {z : Value} {s b : Nat} (h : (P.info? t).map (fun i => (i.zero, i.size, i.bytes)) = some (some z, s, b)) : ∃ i, P.info? t = some i ∧ i.zero = some z ∧ i.size = s ∧ i.bytes = b := by
  cases hi : P.info? t with
  | none => rw [hi] at h; cases h
  | some i => rw [hi] at h; simp at h; exact ⟨i, rfl, h.1, h.2.1, h.2.2⟩
theorem zero_want (w : World) : (zeroValue 114).run Tryz.prog w = .ok (.agg #[.int .i64 0, .int .u64 0, .int .i64 0]) w := by kernel_rfl
def wz : List Value := [.int .i64 0, .int .u64 0, .int .i64 0]
theorem wz_cells : (Builtin.zeroCells (Value.agg #[.int .i64 0, .int .u64 0, .int .i64 0]).cells 1).toList = wz := by kernel_rfl
theorem wz_one : ∀ v ∈ wz, v.oneCell' = true := by intro v hv; simp [wz] at hv; rcases hv with rfl | rfl | rfl <;> rfl
section
variable {w0 w w' : World} {S0 S : Nat → Prop} {N L : List Res} {q : Nat} {s s' : OSt}
theorem DeleteW_o {A : Option Addr} {n c i : Nat} {l : List Wt} (H : St w0 S0 w L) (hi : L[i]? = some (LisR 114 3 (.slice A n c) n (ovs l))) (hn1 : n ≤ 1000) (a : Nat) (ha : a < n) :
    Calls Tryz.prog 107 #[.slice A n c, .int .i64 (a : Int), .int .i64 ((a : Int) + 1)] w fun e w' => e = .returned (.slice A (n - 1) c) ∧ St w0 S0 w' (L.set i (LisR 114 3 (.slice A (n - 1) c) (n - 1) (ovs (l.eraseIdx a)))) := by
  have h := H.lis i hi
  have hl := lis_len h
  have hcap : n ≤ c ∧ c ≤ maxLen := by
    obtain ⟨A', c', hv, h1, h2⟩ := h.shape
    injection hv with _ _ hv
    subst hv; exact ⟨h1, h2⟩
  obtain ⟨iI, hiI, hzI, hsI, hbI⟩ := info3o Tryz.infoWant
  have t1 : decide ((0 : Int) ≤ (a : Int)) = true := decide_eq_true (by omega)
  have t2 : decide ((a : Int) ≤ (a : Int) + 1) = true := decide_eq_true (by omega)
  have t3 : decide ((a : Int) + 1 ≤ (n : Int)) = true := decide_eq_true (by omega)
  have t4 : ((a : Int) == (a : Int) + 1) = false := beq_eq_false_iff_ne.2 (by omega)
  have t5 : a ≤ c := by omega
  have t6 : a + 1 ≤ n := by omega
  have t7 : (0 : Int) ≤ (a : Int) + 1 := by omega
  have t8 : (a : Int) + 1 ≤ (n : Int) := by omega
  obtain ⟨g, off, rfl, hc⟩ := h.reads.2.resolve_left (by omega)
  have HH := Lib.hid H
  have hd : Lis w.drew 114 3 (.slice (some ⟨g, off, none⟩) n c) n (ovs l) := h.keep fun _ _ => rfl
  have hol : (ovs l).length = n * 3 := by rw [ovs_len, hl]
  have hdl : ((ovs l).drop ((a + 1) * 3)).length = (n - (a + 1)) * 3 := by rw [List.length_drop, hol]; omega
  have HDL := Lib.hid hdl
  have HC := Lib.hid (show ∀ j u, ((ovs l).drop ((a + 1) * 3))[j]? = some u → w.drew.cell? ⟨g, off + (a + 1) * 3 + j, none⟩ = some u from fun j u hu => by
    rw [List.getElem?_drop] at hu
    have := hc _ _ hu
    rw [← Nat.add_assoc] at this
    exact this)
  have HW := Lib.hid (lis_within_m hd (a * 3) ((ovs l).drop ((a + 1) * 3)) (by omega) (by omega))
  have HSP := Lib.hid (show ∀ j, j < ((ovs l).drop ((a + 1) * 3)).length → (w.drew.cell? ⟨g, off + a * 3 + j, none⟩).isSome = true ∧ w.drew.frozen? ⟨g, off + a * 3 + j, none⟩ = false from fun j hj => by
    rw [hdl] at hj
    have hc2 := hc (a * 3 + j) _ (List.getElem?_eq_getElem (by rw [hol]; omega))
    refine ⟨?_, hd.frozen _⟩
    rw [Nat.add_assoc]
    have hc3 : w.drew.cell? ⟨g, off + (a * 3 + j), none⟩ = some _ := hc2
    rw [hc3]; rfl)
  have H1 := Lib.hid (show ∀ u ∈ (ovs l).drop ((a + 1) * 3), u.oneCell' = true from fun u hu => ovs_one l u (List.mem_of_mem_drop hu))
  have HOL := Lib.hid hol
  have HL := Lib.hid hl
  unfold maxLen at hcap
  clear h H hc hdl hd hol hl
  go_enter Tryz.func107, Tryz.ntmps107
  go_wp2_with fail
  by_cases hca : c = a + 1
  case pos =>
    subst hca
    obtain rfl : n = a + 1 := by omega
    have t9 : (a : Int) ≤ (a : Int) + 1 := by omega
    have hn0 : (ovs l).drop ((a + 1) * 3) = [] := List.eq_nil_of_length_eq_zero (by rw [HDL.out]; omega)
    have HN0 := Lib.hid hn0
    have s1 := HH.out.drew
    obtain ⟨g', off', hgo, hcc⟩ := (s1.lis i hi).reads.2.resolve_left (by omega)
    obtain ⟨rfl, rfl⟩ : g = g' ∧ off = off' := by simpa using hgo
    have k1 : ∀ j, j < wz.length → (w.drew.cell? ⟨g, off + a * 3 + j, none⟩).isSome = true := fun j hj => by
      have hj : j < 3 := hj
      have := hcc (a * 3 + j) _ (List.getElem?_eq_getElem (by rw [HOL.out]; omega))
      rw [Nat.add_assoc]
      have hc3 : w.drew.cell? ⟨g, off + (a * 3 + j), none⟩ = some _ := this
      rw [hc3]; rfl
    have f0 : ∀ j, j < wz.length → w.drew.frozen? ⟨g, off + a * 3 + j, none⟩ = false := fun j hj => (s1.lis i hi).frozen _
    have hwm := lis_within_m (s1.lis i hi) (a * 3) wz (by show a * 3 + 3 ≤ _; omega) (by omega)
    have s2 := s1.lis_only i hi hwm.1 hwm.2
    have s3 := s2.lis_as i (at_set hi) ((s2.lis i (at_set hi)).upto (show a ≤ a + 1 by omega)) (fun g hg => hg)
    rw [List.set_set] at s3
    have el : ((ovs l).take (a * 3) ++ wz ++ (ovs l).drop (a * 3 + wz.length)).take (a * 3) = ovs (l.eraseIdx a) := by
      rw [List.append_assoc, List.take_left' (by rw [List.length_take, HOL.out]; omega), ovs_take, List.eraseIdx_eq_take_drop_succ, List.drop_eq_nil_of_le (by rw [HL.out]; omega), List.append_nil]
    rw [el] at s3
    have S3 := Lib.hid s3
    have K1 := Lib.hid k1
    have F0 := Lib.hid f0
    clear hn0 s1 s2 s3 hcc hgo el k1 f0 hwm
    go_region_law (first
      | (refine step_append_room (by rfl) _ _ _ (by rfl) 114 iI 3 Tryz.underlying142 hiI hsI g off a (a + 1) (by rfl) ⟨g, off, none⟩ 0 0 [] (by rfl) rfl (by intro j u hu; simp at hu) (by intro u hu; cases hu) (by omega) (by intro j hj; simp at hj) ?_))
    all_goals
      go_wp2_with (refine wpList_clear_m rfl (.tmp 31) 142 rfl 114 (.agg #[.int .i64 0, .int .u64 0, .int .i64 0]) wz Tryz.underlying142 zero_want wz_cells wz_one (g := g) (of := off + a * 3) (cap := 1) (by rfl) K1.out F0.out ?_)
      go_wp2_with fail
      go_ret
      exact ⟨by simp, S3.out⟩
  case neg =>
    go_region_law (first
      | (refine step_append_room (by rfl) _ _ _ (by rfl) 114 iI 3 Tryz.underlying142 hiI hsI g off a c (by rfl) ⟨g, off + (a + 1) * 3, none⟩ (n - (a + 1)) (c - (a + 1)) ((ovs l).drop ((a + 1) * 3)) (by rfl) HDL.out (by intro j u hu; rw [Go.WideShapes.add_plain]; exact HC.out j u hu) H1.out (by omega) HSP.out ?_))
    all_goals
      have s1 := HH.out.drew.lis_only i hi HW.out.1 HW.out.2
      rw [show a + (n - (a + 1)) = n - 1 by omega]
      obtain ⟨k, hk⟩ : ∃ k, n - 1 = k := ⟨_, rfl⟩
      rw [hk]
      have HK := Lib.hid hk
      have hkn : k < n := by omega
      generalize w.drew.setCells g (off + a * 3) (List.drop ((a + 1) * 3) (ovs l)) = W at *
      obtain ⟨g', off', hgo, hcc⟩ := (s1.lis i (at_set hi)).reads.2.resolve_left (by omega)
      obtain ⟨rfl, rfl⟩ : g = g' ∧ off = off' := by simpa using hgo
      have hdr := HDL.out
      have hxl : ((ovs l).take (a * 3) ++ (ovs l).drop ((a + 1) * 3) ++ (ovs l).drop (a * 3 + ((ovs l).drop ((a + 1) * 3)).length)).length = n * 3 := (s1.lis i (at_set hi)).1
      have k1 : ∀ j, j < wz.length → (W.cell? ⟨g, off + k * 3 + j, none⟩).isSome = true := fun j hj => by
        have hj : j < 3 := hj
        have := hcc (k * 3 + j) _ (List.getElem?_eq_getElem (by rw [hxl]; omega))
        rw [Nat.add_assoc]
        have hc3 : W.cell? ⟨g, off + (k * 3 + j), none⟩ = some _ := this
        rw [hc3]; rfl
      have f0 : ∀ j, j < wz.length → W.frozen? ⟨g, off + k * 3 + j, none⟩ = false := fun j hj => (s1.lis i (at_set hi)).frozen _
      have hwm := lis_within_m (s1.lis i (at_set hi)) (k * 3) wz (by show k * 3 + 3 ≤ _; omega) (by omega)
      have s2 := s1.lis_only i (at_set hi) hwm.1 hwm.2
      rw [List.set_set] at s2
      have s3 := s2.lis_as i (at_set hi) ((s2.lis i (at_set hi)).upto (show k ≤ n by omega)) (fun g hg => hg)
      rw [List.set_set] at s3
      have el : (((ovs l).take (a * 3) ++ (ovs l).drop ((a + 1) * 3) ++ (ovs l).drop (a * 3 + ((ovs l).drop ((a + 1) * 3)).length)).take (k * 3) ++ wz ++ ((ovs l).take (a * 3) ++ (ovs l).drop ((a + 1) * 3) ++ (ovs l).drop (a * 3 + ((ovs l).drop ((a + 1) * 3)).length)).drop (k * 3 + wz.length)).take (k * 3) = ovs (l.eraseIdx a) := by
        have hol := HOL.out
        rw [List.append_assoc (List.take (k * 3) _), List.take_left' (by rw [List.length_take, hxl]; omega), List.take_left' (by rw [List.length_append, List.length_take, hol, hdr]; omega), List.eraseIdx_eq_take_drop_succ, ovs_app, ovs_take, ovs_drop]
      rw [el] at s3
      have S3 := Lib.hid s3
      have K1 := Lib.hid k1
      have F0 := Lib.hid f0
      have v1 : k ≤ n := by omega
      have v2 : n ≤ c := by omega
      have v3 : ¬ c = k := by omega
      have v4 : n - k = 1 := by omega
      have v5 : (k : Int) ≤ (n : Int) := by omega
      have v6 : (n : Int) ≤ (c : Int) := by omega
      clear s1 s2 s3 hcc hgo el hxl hdr hk k1 f0 hwm
      go_wp2_with (refine wpList_clear_m rfl (.tmp 31) 142 rfl 114 (.agg #[.int .i64 0, .int .u64 0, .int .i64 0]) wz Tryz.underlying142 zero_want wz_cells wz_one (g := g) (of := off + k * 3) (cap := c - k) (by rfl) K1.out F0.out ?_)
      go_wp2_with fail
      go_ret
      exact ⟨by rw [HK.out]; rfl, by rw [HK.out]; exact S3.out⟩
end
end
section
set_option linter.unusedVariables false
set_option maxRecDepth 100000
set_option maxHeartbeats 2000000
section
variable {w0 w w' : World} {S0 S : Nat → Prop} {N L : List Res} {q : Nat} {s s' : OSt}
theorem New_o (H : St w0 S0 w L) : Calls Tryz.prog 92 #[] w fun e w' => ∃ p, e = .returned (.pointer (some ⟨p, 0, none⟩)) ∧ St w0 S0 w' (L ++ [OQR p OSt.new]) := by
  have t := (H.box 210 #[.slice none 0 0, .int .i64 0, .bool true]).lis_nil 114 3
  rw [List.append_assoc] at t
  have t2 := t.fold (R := OQR w.heap.size OSt.new) (OQR.ok _ _) fun S h => ⟨none, 0, h⟩
  have T2 := Lib.hid t2
  clear t t2 H
  go_enter Tryz.func92, Tryz.ntmps92
  go_wp2_with fail
  go_ret
  exact ⟨_, rfl, T2.out⟩
theorem place_w (K : St w0 S0 w L) (i : Nat) (hi : L[i]? = some (OQR q s)) (hs : s.ok) {id z : Int} (hz : FindW s.l id z) :
    Calls Tryz.prog 101 #[.pointer (some ⟨q, 0, none⟩), .int .i64 id] w fun e w' => e = .returned (.int .i64 z) ∧ St w0 S0 w' L := by
  obtain ⟨T, hT⟩ := K.get i hi
  exact looks (place_c hT hs hz) K
theorem Drop_c (h : OQR q s w S) (hs : s.ok) {id f : Int} (hP : DropP s id f s') :
    Calls Tryz.prog 48 #[.pointer (some ⟨q, 0, none⟩), .int .i64 id] w fun e w' => e = .returned (.int .i64 f) ∧ ∃ S', OQR q s' w' S' ∧ Did S S' w w' := by
  obtain ⟨A, c, hh⟩ := h
  have s0 : St w S w (OQL q A c s) := St.start hh
  have hlen := hs.len
  have hle : s.l.length ≤ 1000 := by omega
  obtain ⟨z, hz⟩ := findW_ex s.l id
  have PC := Lib.hid (looks (place_c ⟨A, c, hh⟩ hs hz) s0)
  rcases hP with ⟨hno, rfl, rfl⟩ | ⟨i, x, hx, rfl, rfl, rfl⟩
  · obtain rfl : z = -1 := by
      rcases hz with ⟨h, _⟩ | ⟨i, x, _, h1, h2, _⟩
      · exact h
      · exact absurd h2 (hno x (List.mem_of_getElem? h1))
    clear s0 hh hs hz hno
    go_enter Tryz.func48, Tryz.ntmps48
    go_wp2_with fail
    refine PC.out.mono ?_
    rintro e w1 ⟨rfl, s1⟩
    have S1 := Lib.hid s1
    clear PC s1
    go_wp2_with fail
    go_ret
    exact ⟨rfl, S1.out.fin fun S' h => ⟨A, c, h⟩⟩
  · obtain rfl : z = (i : Int) := by
      rcases hz with ⟨_, h⟩ | ⟨i', y, h0, h1, h2, h3⟩
      · exact absurd rfl (h x (List.mem_of_getElem? hx))
      · rw [h0, hs.one i' i y x h1 hx h2]
    have hil := (List.getElem?_eq_some_iff.1 hx).1
    have z1 : decide ((i : Int) < 0) = false := decide_eq_false (by omega)
    have HEL := Lib.hid (List.length_eraseIdx_of_lt hil)
    clear s0 hh hs hz hx
    obtain ⟨n, hn⟩ : ∃ n, s.l.length = n := ⟨_, rfl⟩
    have HN := Lib.hid hn
    rw [hn] at hil hle
    clear hn hlen
    have i0 : 0 ≤ (i : Int) := by omega
    go_enter Tryz.func48, Tryz.ntmps48
    go_wp2_with fail
    refine PC.out.mono ?_
    rintro e w1 ⟨rfl, s1⟩
    have s1' : St w S w1 [BlkR q 210 #[.slice A n c, .int .i64 s.head, .bool s.up], LisR 114 3 (.slice A n c) n (ovs s.l)] := by rw [← HN.out]; exact s1
    have q0 := (s1'.blk 0 rfl).three.1
    have DC := Lib.hid (DeleteW_o (i := 1) s1' rfl hle i hil)
    clear PC s1 s1'
    go_wp2_with fail
    refine DC.out.mono ?_
    rintro e w2 ⟨rfl, s2⟩
    have q1 := (s2.blk 0 rfl).three.1
    have f1 := (s2.blk 0 rfl).frozen 0
    have s3 := s2.set_ 0 rfl 0 (.slice A (n - 1) c)
    have S3 := Lib.hid s3
    clear DC s2 s3 q0
    go_wp2_with fail
    go_ret
    refine ⟨rfl, S3.out.fin fun S' h => ⟨A, c, ?_⟩⟩
    show Star [_, _] _ _
    rw [HEL.out, HN.out]
    exact h
theorem Drop_o (H : St w0 S0 w L) (i : Nat) (hi : L[i]? = some (OQR q s)) (hs : s.ok) {id f : Int} (hP : DropP s id f s') :
    Calls Tryz.prog 48 #[.pointer (some ⟨q, 0, none⟩), .int .i64 id] w fun e w' => e = .returned (.int .i64 f) ∧ St w0 S0 w' (L.set i (OQR q s')) :=
  St.call (fun w S h => Drop_c h hs hP) (OQR.ok _ _) H i hi
end
end
section
set_option linter.unusedVariables false
set_option maxRecDepth 100000
set_option maxHeartbeats 2000000
section
variable {w0 w w' : World} {S0 S : Nat → Prop} {N L : List Res} {q : Nat} {s s' : OSt}
theorem Add_c (h : OQR q s w S) (hs : s.ok) {x : Wt} (hx : 0 ≤ x.dead) {f : Int} (hP : AddP s x f s') :
    Calls Tryz.prog 45 #[.pointer (some ⟨q, 0, none⟩), x.v] w fun e w' => e = .returned (.int .i64 f) ∧ ∃ S', OQR q s' w' S' ∧ Did S S' w w' := by
  obtain ⟨A, c, hh⟩ := h
  have s0 : St w S w (OQL q A c s) := St.start hh
  have s1 : St w S (w.alloc (.cells #[.int .i64 x.id, .int .u64 x.dead, .int .i64 x.track] 114)) (OQL q A c s ++ [BlkR w.heap.size 114 #[.int .i64 x.id, .int .u64 x.dead, .int .i64 x.track]]) := s0.box _ _
  obtain ⟨e0, e1, e2⟩ := (s1.blk 2 rfl).three
  have MC := Lib.hid (fun b hb => looks (May_c x (w.alloc (.cells #[.int .i64 x.id, .int .u64 x.dead, .int .i64 x.track] 114)) hx b hb) s1)
  have PL' := Lib.hid (fun (w1 : World) (K : St w S w1 (OQL q A c s ++ [BlkR w.heap.size 114 #[.int .i64 x.id, .int .u64 x.dead, .int .i64 x.track]])) (z : Int) (hz : FindW s.l x.id z) => by
    obtain ⟨T, hT⟩ : ∃ T, Star (OQL q A c s) w1 T := (K.take 2).imp fun T h => h.1
    exact looks (place_c ⟨A, c, hT⟩ hs hz) K)
  have HS := Lib.hid hs
  obtain ⟨z, hz⟩ := findW_ex s.l x.id
  have HZ := Lib.hid hz
  have hlen := hs.len
  clear s0 s1 hh hs hx hz
  unfold Wt.v at *
  rcases hP with ⟨hm, rfl, rfl⟩ | ⟨hm, hex, rfl, rfl⟩ | ⟨hm, hno, hfull, rfl, rfl⟩ | ⟨hm, hno, hroom, rfl, rfl⟩
  · have M1 := Lib.hid (MC.out false (decide_eq_false hm).symm)
    clear hm MC PL'
    go_enter Tryz.func45, Tryz.ntmps45
    go_wp2_with fail
    refine M1.out.mono ?_
    rintro e w1 ⟨rfl, s2⟩
    have S2 := Lib.hid (s2.take 2)
    clear M1 s2
    go_wp2_with fail
    go_ret
    exact ⟨rfl, S2.out.fin fun S' h => ⟨A, c, h⟩⟩
  · have M1 := Lib.hid (MC.out true (decide_eq_true hm).symm)
    obtain ⟨i, rfl⟩ : ∃ i : Nat, z = (i : Int) := by
      rcases HZ.out with ⟨_, h⟩ | ⟨i, _, h, _⟩
      · obtain ⟨y, hy, e⟩ := hex; exact absurd e (h y hy)
      · exact ⟨i, h⟩
    have z1 : decide ((0 : Int) ≤ (i : Int)) = true := decide_eq_true (by omega)
    clear hm MC hex
    go_enter Tryz.func45, Tryz.ntmps45
    go_wp2_with fail
    refine M1.out.mono ?_
    rintro e w1 ⟨rfl, s2⟩
    obtain ⟨b0, b1, b2⟩ := (s2.blk 2 rfl).three
    have P1 := Lib.hid (PL'.out w1 s2 _ HZ.out)
    clear M1 s2
    go_wp2_with fail
    refine P1.out.mono ?_
    rintro e w2 ⟨rfl, s3⟩
    have S3 := Lib.hid (s3.take 2)
    clear P1 s3
    go_wp2_with fail
    go_ret
    exact ⟨rfl, S3.out.fin fun S' h => ⟨A, c, h⟩⟩
  all_goals
    have M1 := Lib.hid (MC.out true (decide_eq_true hm).symm)
    obtain rfl : z = -1 := by
      rcases HZ.out with ⟨h, _⟩ | ⟨i, y, _, h1, h2, _⟩
      · exact h
      · exact absurd h2 (hno y (List.mem_of_getElem? h1))
    clear hm MC hno
  · obtain ⟨n, hn⟩ : ∃ n, s'.l.length = n := ⟨_, rfl⟩
    have HN := Lib.hid hn
    rw [hn] at hfull
    clear hn
    subst hfull
    go_enter Tryz.func45, Tryz.ntmps45
    go_wp2_with fail
    refine M1.out.mono ?_
    rintro e w1 ⟨rfl, s2⟩
    obtain ⟨b0, b1, b2⟩ := (s2.blk 2 rfl).three
    have P1 := Lib.hid (PL'.out w1 s2 _ HZ.out)
    clear M1 s2
    go_wp2_with fail
    refine P1.out.mono ?_
    rintro e w2 ⟨rfl, s3⟩
    have q0 : w2.cell? ⟨q, 0, none⟩ = some (.slice A 64 c) := by rw [← HN.out]; exact (s3.blk 0 rfl).three.1
    have S3 := Lib.hid (s3.take 2)
    clear P1 s3
    go_wp2_with fail
    go_ret
    exact ⟨rfl, S3.out.fin fun S' h => ⟨A, c, h⟩⟩
  · obtain ⟨n, hn⟩ : ∃ n, s.l.length = n := ⟨_, rfl⟩
    have HN := Lib.hid hn
    rw [hn] at hroom hlen
    clear hn
    have z2 : ((n : Int) == 64) = false := beq_eq_false_iff_ne.2 (by omega)
    obtain ⟨iI, hiI, hzI, hsI, hbI⟩ := info3o Tryz.infoWant
    go_enter Tryz.func45, Tryz.ntmps45
    go_wp2_with fail
    refine M1.out.mono ?_
    rintro e w1 ⟨rfl, s2⟩
    obtain ⟨b0, b1, b2⟩ := (s2.blk 2 rfl).three
    have P1 := Lib.hid (PL'.out w1 s2 _ HZ.out)
    clear M1 s2
    go_wp2_with fail
    refine P1.out.mono ?_
    rintro e w2 ⟨rfl, s3⟩
    have q0 : w2.cell? ⟨q, 0, none⟩ = some (.slice A n c) := by rw [← HN.out]; exact (s3.blk 0 rfl).three.1
    obtain ⟨d0, d1, d2⟩ := (s3.blk 2 rfl).three
    have s3' : St w S w2 [BlkR q 210 #[.slice A n c, .int .i64 s.head, .bool s.up], LisR 114 3 (.slice A n c) n (ovs s.l)] := by rw [← HN.out]; exact s3.take 2
    have s4 := (s3'.alloc (.cells #[.int .i64 x.id, .int .u64 x.dead, .int .i64 x.track] 114)).drew
    have q1 := (s4.blk 0 rfl).three.1
    have r0 := cell_alloc d0 (.cells #[.int .i64 x.id, .int .u64 x.dead, .int .i64 x.track] 114)
    have r1 := cell_alloc d1 (.cells #[.int .i64 x.id, .int .u64 x.dead, .int .i64 x.track] 114)
    have r2 := cell_alloc d2 (.cells #[.int .i64 x.id, .int .u64 x.dead, .int .i64 x.track] 114)
    have RB := Lib.hid (show Rds ((w2.alloc (.cells #[.int .i64 x.id, .int .u64 x.dead, .int .i64 x.track] 114)).drew) (some ⟨w2.heap.size, 0, none⟩) 1 3 (ovs [x]) from by
      refine ⟨rfl, Or.inr ⟨_, _, rfl, fun j u hu => ?_⟩⟩
      rw [Nat.zero_add]
      refine ((Blk.new w2 114 #[.int .i64 x.id, .int .u64 x.dead, .int .i64 x.track]).cell j).trans ?_
      simpa [ovs] using hu)
    have hl4 := s4.lis 1 rfl
    have HL4 := Lib.hid hl4
    have S4 := Lib.hid s4
    have hcap : n ≤ c ∧ c ≤ maxLen := by
      obtain ⟨A', c', hv, h1, h2⟩ := hl4.shape
      injection hv with _ _ hv
      subst hv; exact ⟨h1, h2⟩
    unfold maxLen at hcap
    clear P1 s3 s3' s4 hl4 PL'
    go_wp2_with fail
    go_region_law (first
      | (refine step_lis (by rfl) _ _ _ (by rfl) 114 iI (.agg #[.int .i64 0, .int .u64 0, .int .i64 0]) 3 24 Tryz.underlying142 hiI hzI hsI hbI (by rfl) (by omega) (.slice A n c) n (ovs s.l) (by rfl) HL4.out _ 1 1 (ovs [x]) (by rfl) RB.out (ovs_one _) (by unfold maxLen; omega) (by omega) ?_; intro B cB w5 hl hg hat; have t5 := S4.out.lis_put 1 rfl hl hg hat; have m1 := (t5.blk 0 rfl).three.1; have g1 := (t5.blk 0 rfl).frozen 0; have T6 := Lib.hid (t5.set_ 0 rfl 0 (.slice B (n + 1) cB)); clear hl hg hat t5))
    all_goals
      go_wp2_with fail
      go_ret
      refine ⟨rfl, T6.out.fin fun S' h => ⟨B, cB, ?_⟩⟩
      show Star [_, _] _ _
      rw [List.length_append, HN.out, ovs_app]
      exact h
end
end
section
set_option linter.unusedVariables false
set_option maxRecDepth 100000
set_option maxHeartbeats 2000000
theorem _root_.Go.Proofs.YtdjhpdacglojaaaGreat.St.unfoldX {α : Type} {w0 w : World} {S0 : Nat → Prop} {A : List Res} {R : Res} {B : α → List Res} {Q : α → Prop} (h : St w0 S0 w (A ++ [R])) (hr : ∀ S, R w S → ∃ x, Q x ∧ Star (B x) w S) : ∃ x, Q x ∧ St w0 S0 w (A ++ B x) := by
  obtain ⟨S, ⟨F, f1, f2, f3, f4⟩, hd⟩ := h
  obtain ⟨x, hq, hB⟩ := hr _ (f1 A.length R (by simp)).2
  have hA : Star A w (fun b => ∃ i, i < A.length ∧ F i b) := ⟨fun i b => i < A.length ∧ F i b, fun i R hR => by
      have hi : i < A.length := by
        rcases Nat.lt_or_ge i A.length with h | h
        · exact h
        · rw [List.getElem?_eq_none h] at hR; cases hR
      have e : (fun b => i < A.length ∧ F i b) = F i := funext fun b => propext ⟨fun h => h.2, fun h => ⟨hi, h⟩⟩
      dsimp only; rw [e]; exact f1 i R (by rw [List.getElem?_append_left hi]; exact hR), fun i j b hi hj => f2 i j b hi.2 hj.2, fun i b hi => hi.1, fun b => Iff.rfl⟩
  have hj := Star.append hA hB (fun b ⟨i, hi, h1⟩ h2 => by have := f2 i _ b h1 h2; omega)
  have e : (fun b => (∃ i, i < A.length ∧ F i b) ∨ F A.length b) = S := funext fun b => propext ⟨fun h => (f4 b).2 (h.elim (fun ⟨i, _, h⟩ => ⟨i, h⟩) fun h => ⟨_, h⟩), fun h => by
    obtain ⟨i, hi⟩ := (f4 b).1 h
    have hl := f3 i b hi
    simp at hl
    rcases Nat.lt_or_ge i A.length with hl' | hl'
    · exact Or.inl ⟨i, hl', hi⟩
    · obtain rfl : i = A.length := by omega
      exact Or.inr hi⟩
  rw [e] at hj
  exact ⟨x, hq, S, hj, hd⟩
section
variable {w0 w w' : World} {S0 S : Nat → Prop} {N L : List Res} {q : Nat} {s s' : OSt}
theorem Take_c (h : OQR q s w S) (hs : s.ok) {x : Wt} {f : Int} (hP : TakeP s x f s') :
    Calls Tryz.prog 55 #[.pointer (some ⟨q, 0, none⟩)] w fun e w' => e = .returned (.tuple #[x.v, .int .i64 f]) ∧ ∃ S', OQR q s' w' S' ∧ Did S S' w w' := by
  obtain ⟨up, hn, hP⟩ := hP
  have K0 : St w S w [OQR q s] := St.start (Star.one (OQR.ok q s) h)
  have K1 : St w S _ [OQR q s, BlkR w.heap.size 114 #[.int .i64 0, .int .u64 0, .int .i64 0]] := St.box (L := [_]) K0 114 #[.int .i64 0, .int .u64 0, .int .i64 0]
  obtain ⟨T, hT⟩ := K1.get 0 rfl
  have N1 := Lib.hid (looks (next_c hT hs hn) K1)
  have HS := Lib.hid hs
  have HNX := Lib.hid hn
  clear K0 K1 hT h hs hn
  go_enter Tryz.func55, Tryz.ntmps55
  go_wp2_with fail
  refine N1.out.mono ?_
  rintro e w1 ⟨rfl, u1⟩
  have u2 : St w S (w1.alloc (.cells #[.int .i64 x.id, .int .u64 x.dead, .int .i64 x.track] 114)) [OQR q s, BlkR w.heap.size 114 #[.int .i64 0, .int .u64 0, .int .i64 0], BlkR w1.heap.size 114 #[.int .i64 x.id, .int .u64 x.dead, .int .i64 x.track]] := St.box (L := [_, _]) u1 _ _
  have f0 := (u2.blk 1 rfl).frozen 0
  have f1 := (u2.blk 1 rfl).frozen 1
  have f2 := (u2.blk 1 rfl).frozen 2
  obtain ⟨c0, c1, c2⟩ : _ ∧ _ ∧ _ := (u2.blk 1 rfl).three
  obtain ⟨d0, d1, d2⟩ : _ ∧ _ ∧ _ := (u2.blk 2 rfl).three
  have U2 := Lib.hid u2
  clear u1 u2 N1
  unfold Wt.v
  rcases hP with ⟨rfl, rfl⟩ | ⟨rfl, i, hi, rfl⟩
  · have u3 := ((U2.out.set_ 1 rfl 0 (.int .i64 x.id)).set_ 1 rfl 1 (.int .u64 x.dead)).set_ 1 rfl 2 (.int .i64 x.track)
    obtain ⟨k0, k1, k2⟩ : _ ∧ _ ∧ _ := (u3.blk 1 rfl).three
    have U3 := Lib.hid (u3.take 1)
    clear u3 U2
    go_wp2_with fail
    refine bodyPost_ret (v := .tuple #[x.v, .int .i64 5]) ?_ rfl ⟨rfl, U3.out.fin fun S' h => star_one h⟩
    simp [results, Tryz.results55, go_sem, k0, k1, k2, Wt.v]
  · have DC := Lib.hid (Drop_o U2.out 0 rfl HS.out (id := x.id) (f := 0) (s' := { s with l := s.l.eraseIdx i }) (Or.inr ⟨i, x, hi, rfl, rfl, rfl⟩))
    clear U2 hi
    go_wp2_with fail
    refine DC.out.mono ?_
    rintro e w2 ⟨rfl, u3⟩
    have u3 : St w S w2 [OQR q { s with l := s.l.eraseIdx i }, BlkR w.heap.size 114 #[.int .i64 0, .int .u64 0, .int .i64 0], BlkR w1.heap.size 114 #[.int .i64 x.id, .int .u64 x.dead, .int .i64 x.track]] := u3
    clear f0 f1 f2 c0 c1 c2 d0 d1 d2 DC
    have u4 := St.comm (A := [_]) (B := [_, _]) u3
    obtain ⟨⟨A, c⟩, -, hr⟩ := u4.unfoldX (B := fun y : Option Addr × Nat => OQL q y.1 y.2 { s with l := s.l.eraseIdx i }) (Q := fun _ => True) fun T ⟨A, c, h⟩ => ⟨(A, c), trivial, h⟩
    have u5 : St w S w2 [BlkR w.heap.size 114 #[.int .i64 0, .int .u64 0, .int .i64 0], BlkR w1.heap.size 114 #[.int .i64 x.id, .int .u64 x.dead, .int .i64 x.track], BlkR q 210 #[.slice A (s.l.eraseIdx i).length c, .int .i64 s.head, .bool s.up], LisR 114 3 (.slice A (s.l.eraseIdx i).length c) (s.l.eraseIdx i).length (ovs (s.l.eraseIdx i))] := hr
    have f0 := (u5.blk 0 rfl).frozen 0
    have f1 := (u5.blk 0 rfl).frozen 1
    have f2 := (u5.blk 0 rfl).frozen 2
    obtain ⟨c0, c1, c2⟩ := (u5.blk 0 rfl).three
    obtain ⟨d0, d1, d2⟩ := (u5.blk 1 rfl).three
    obtain ⟨q0, q1, q2⟩ := (u5.blk 2 rfl).three
    have g1 := (u5.blk 2 rfl).frozen 1
    have g2 := (u5.blk 2 rfl).frozen 2
    have u6 := (u5.set_ 2 rfl 1 (.int .i64 x.track)).set_ 2 rfl 2 (.bool up)
    obtain ⟨v0, v1, v2⟩ : _ ∧ _ ∧ _ := (u6.blk 1 rfl).three
    obtain ⟨x0, x1, x2⟩ : _ ∧ _ ∧ _ := (u6.blk 0 rfl).three
    have y0 := (u6.blk 0 rfl).frozen 0
    have y1 := (u6.blk 0 rfl).frozen 1
    have y2 := (u6.blk 0 rfl).frozen 2
    have u7 := ((u6.set_ 0 rfl 0 (.int .i64 x.id)).set_ 0 rfl 1 (.int .u64 x.dead)).set_ 0 rfl 2 (.int .i64 x.track)
    obtain ⟨k0, k1, k2⟩ : _ ∧ _ ∧ _ := (u7.blk 0 rfl).three
    have U7 := Lib.hid ((u7.drop 0 (by simp)).drop 0 (by simp))
    clear u3 u4 hr u5 u6 u7
    go_wp2_with fail
    refine bodyPost_ret (v := .tuple #[x.v, .int .i64 0]) ?_ rfl ⟨rfl, U7.out.fin fun S' h => ⟨A, c, h⟩⟩
    simp [results, Tryz.results55, go_sem, k0, k1, k2, Wt.v]
/-! ### Among other things -/
theorem Add_o (H : St w0 S0 w L) (i : Nat) (hi : L[i]? = some (OQR q s)) (hs : s.ok) {x : Wt} (hx : 0 ≤ x.dead) {f : Int} (hP : AddP s x f s') :
    Calls Tryz.prog 45 #[.pointer (some ⟨q, 0, none⟩), .agg #[.int .i64 x.id, .int .u64 x.dead, .int .i64 x.track]] w fun e w' => e = .returned (.int .i64 f) ∧ St w0 S0 w' (L.set i (OQR q s')) :=
  St.call (fun w S h => Add_c h hs hx hP) (OQR.ok _ _) H i hi
theorem Take_o (H : St w0 S0 w L) (i : Nat) (hi : L[i]? = some (OQR q s)) (hs : s.ok) {x : Wt} {f : Int} (hP : TakeP s x f s') :
    Calls Tryz.prog 55 #[.pointer (some ⟨q, 0, none⟩)] w fun e w' => e = .returned (.tuple #[.agg #[.int .i64 x.id, .int .u64 x.dead, .int .i64 x.track], .int .i64 f]) ∧ St w0 S0 w' (L.set i (OQR q s')) :=
  St.call (fun w S h => Take_c h hs hP) (OQR.ok _ _) H i hi
end
end
end od
end Go.Proofs.YtdjhpdacglojaaaGreat
