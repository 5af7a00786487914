/- Layer 18: requests that wait; who is next. Plain theorems. -/
import Derived.Test.YtmikjbhhnndncaaGrid
namespace Go.Proofs.Ytmikjbhhnndncaa
open Go.RowKit
set_option linter.unusedVariables false
/-- A request. -/
structure Wt where
  id : Int
  dead : Int
  track : Int
deriving DecidableEq
def mayW (x : Wt) : Prop := (0 ≤ x.id ∧ x.id ≤ 65535) ∧ (0 ≤ x.dead ∧ x.dead < 4611686018427387904) ∧ 0 ≤ x.track ∧ x.track ≤ 1048576
instance (x : Wt) : Decidable (mayW x) := by unfold mayW; infer_instance
/-- A queue, and its head. -/
structure OSt where
  l : List Wt
  head : Int
  up : Bool
def OSt.new : OSt := ⟨[], 0, true⟩
/-- A queue that may be. -/
structure OSt.ok (s : OSt) : Prop where
  may : ∀ x ∈ s.l, mayW x
  len : s.l.length ≤ 64
  one : ∀ (i j : Nat) (x y : Wt), s.l[i]? = some x → s.l[j]? = some y → x.id = y.id → i = j
  hd : 0 ≤ s.head ∧ s.head ≤ 1048576
theorem OSt.new_ok : OSt.new.ok := ⟨fun x h => (by cases h), by decide, fun i j x y h => (by simp [OSt.new] at h), by decide⟩
/-- Where a number stands. -/
def FindW (l : List Wt) (id z : Int) : Prop := (z = -1 ∧ ∀ x ∈ l, x.id ≠ id) ∨ ∃ (i : Nat) (x : Wt), z = (i : Int) ∧ l[i]? = some x ∧ x.id = id ∧ ∀ (j : Nat) (y : Wt), j < i → l[j]? = some y → y.id ≠ id
theorem findW_ex (l : List Wt) (id : Int) : ∃ z, FindW l id z := by
  induction l with
  | nil => exact ⟨-1, Or.inl ⟨rfl, fun x h => (by cases h)⟩⟩
  | cons a t ih =>
    by_cases e : a.id = id
    · exact ⟨0, Or.inr ⟨0, a, rfl, rfl, e, fun j y h => by omega⟩⟩
    · obtain ⟨z, h⟩ := ih
      rcases h with ⟨rfl, h⟩ | ⟨i, x, rfl, h1, h2, h3⟩
      · refine ⟨-1, Or.inl ⟨rfl, fun x hx => ?_⟩⟩
        rcases List.mem_cons.1 hx with rfl | hx
        · exact e
        · exact h x hx
      · refine ⟨((i + 1 : Nat) : Int), Or.inr ⟨i + 1, x, rfl, h1, h2, fun j y hj hy => ?_⟩⟩
        cases j with
        | zero => simp at hy; subst hy; exact e
        | succ j => exact h3 j y (by omega) (by simpa using hy)
/-! ### What each call tells and does -/
def AddP (s : OSt) (x : Wt) (f : Int) (s' : OSt) : Prop :=
  (¬ mayW x ∧ f = 1 ∧ s' = s) ∨ (mayW x ∧ (∃ y ∈ s.l, y.id = x.id) ∧ f = 7 ∧ s' = s) ∨ (mayW x ∧ (∀ y ∈ s.l, y.id ≠ x.id) ∧ s.l.length = 64 ∧ f = 4 ∧ s' = s) ∨
  (mayW x ∧ (∀ y ∈ s.l, y.id ≠ x.id) ∧ s.l.length ≠ 64 ∧ f = 0 ∧ s' = { s with l := s.l ++ [x] })
theorem addP_ex (s : OSt) (x : Wt) : ∃ f s', AddP s x f s' := by
  by_cases h1 : mayW x
  · by_cases h2 : ∃ y ∈ s.l, y.id = x.id
    · exact ⟨_, _, Or.inr (Or.inl ⟨h1, h2, rfl, rfl⟩)⟩
    · have h3 : ∀ y ∈ s.l, y.id ≠ x.id := fun y hy e => h2 ⟨y, hy, e⟩
      by_cases h4 : s.l.length = 64
      · exact ⟨_, _, Or.inr (Or.inr (Or.inl ⟨h1, h3, h4, rfl, rfl⟩))⟩
      · exact ⟨_, _, Or.inr (Or.inr (Or.inr ⟨h1, h3, h4, rfl, rfl⟩))⟩
  · exact ⟨_, _, Or.inl ⟨h1, rfl, rfl⟩⟩
theorem AddP.ok {s s' : OSt} {x : Wt} {f : Int} (h : AddP s x f s') (hs : s.ok) : s'.ok := by
  rcases h with ⟨_, _, rfl⟩ | ⟨_, _, _, rfl⟩ | ⟨_, _, _, _, rfl⟩ | ⟨h1, h2, h3, _, rfl⟩
  · exact hs
  · exact hs
  · exact hs
  · refine ⟨fun y hy => ?_, ?_, fun i j a b hi hj e => ?_, hs.hd⟩
    · rcases List.mem_append.1 hy with hy | hy
      · exact hs.may y hy
      · simp at hy; subst hy; exact h1
    · have := hs.len; simp; omega
    · have hl : ∀ (k : Nat) (z : Wt), (s.l ++ [x])[k]? = some z → (k < s.l.length ∧ s.l[k]? = some z) ∨ (k = s.l.length ∧ z = x) := fun k z hk => by
        by_cases hk2 : k < s.l.length
        · rw [List.getElem?_append_left hk2] at hk; exact Or.inl ⟨hk2, hk⟩
        · rw [List.getElem?_append_right (by omega)] at hk
          have : k - s.l.length = 0 := by
            have := (List.getElem?_eq_some_iff.1 hk).1
            simp at this; omega
          rw [this] at hk; simp at hk
          exact Or.inr ⟨by omega, hk.symm⟩
      rcases hl i a hi with ⟨_, h4⟩ | ⟨h4, rfl⟩ <;> rcases hl j b hj with ⟨_, h5⟩ | ⟨h5, rfl⟩
      · exact hs.one i j a b h4 h5 e
      · exact absurd e (h2 a (List.mem_of_getElem? h4))
      · exact absurd e.symm (h2 b (List.mem_of_getElem? h5))
      · omega
def DropP (s : OSt) (id f : Int) (s' : OSt) : Prop := ((∀ x ∈ s.l, x.id ≠ id) ∧ f = 6 ∧ s' = s) ∨ ∃ (i : Nat) (x : Wt), s.l[i]? = some x ∧ x.id = id ∧ f = 0 ∧ s' = { s with l := s.l.eraseIdx i }
theorem dropP_ex (s : OSt) (id : Int) : ∃ f s', DropP s id f s' := by
  obtain ⟨z, h⟩ := findW_ex s.l id
  rcases h with ⟨_, h⟩ | ⟨i, x, _, h1, h2, _⟩
  · exact ⟨_, _, Or.inl ⟨h, rfl, rfl⟩⟩
  · exact ⟨_, _, Or.inr ⟨i, x, h1, h2, rfl, rfl⟩⟩
theorem erase_at {l : List Wt} {i k : Nat} {x : Wt} (h : (l.eraseIdx i)[k]? = some x) : ∃ k', l[k']? = some x ∧ k' ≠ i ∧ (k' = if k < i then k else k + 1) := by
  rw [List.getElem?_eraseIdx] at h
  by_cases e : k < i
  · rw [if_pos e] at h; exact ⟨k, h, by omega, by rw [if_pos e]⟩
  · rw [if_neg e] at h; exact ⟨k + 1, h, by omega, by rw [if_neg e]⟩
theorem OSt.ok.erase {s : OSt} (hs : s.ok) (i : Nat) : ({ s with l := s.l.eraseIdx i } : OSt).ok := by
  refine ⟨fun y hy => hs.may y (List.mem_of_mem_eraseIdx hy), ?_, fun a b x y ha hb e => ?_, hs.hd⟩
  · exact Nat.le_trans (List.length_eraseIdx_le _ _) hs.len
  · obtain ⟨a', h1, h2, h3⟩ := erase_at ha
    obtain ⟨b', h4, h5, h6⟩ := erase_at hb
    have := hs.one a' b' x y h1 h4 e
    subst this
    by_cases e1 : a < i <;> by_cases e2 : b < i <;> simp only [e1, e2, if_true, if_false] at h3 h6 <;> omega
theorem DropP.ok {s s' : OSt} {id f : Int} (h : DropP s id f s') (hs : s.ok) : s'.ok := by
  rcases h with ⟨_, _, rfl⟩ | ⟨i, x, _, _, _, rfl⟩
  · exact hs
  · exact hs.erase i
/-- How far off the head a track is, on the way. -/
def off (up : Bool) (head t : Int) : Int := if up then t - head else head - t
/-- The least time. -/
def firstD (l : List Wt) : Int := l.foldl (fun a x => if x.dead < a then x.dead else a) 4611686018427387904
theorem foldl_le (l : List Wt) : ∀ a, (l.foldl (fun a (x : Wt) => if x.dead < a then x.dead else a) a ≤ a) ∧ (∀ x ∈ l, l.foldl (fun a (x : Wt) => if x.dead < a then x.dead else a) a ≤ x.dead) ∧ (l.foldl (fun a (x : Wt) => if x.dead < a then x.dead else a) a = a ∨ ∃ x ∈ l, x.dead = l.foldl (fun a (x : Wt) => if x.dead < a then x.dead else a) a) := by
  induction l with
  | nil => intro a; exact ⟨Int.le_refl _, fun x h => (by cases h), Or.inl rfl⟩
  | cons y t ih =>
    intro a
    simp only [List.foldl_cons]
    obtain ⟨h1, h2, h3⟩ := ih (if y.dead < a then y.dead else a)
    refine ⟨?_, fun x hx => ?_, ?_⟩
    · split at h1 <;> (split <;> omega)
    · rcases List.mem_cons.1 hx with rfl | hx
      · split at h1 <;> (split <;> omega)
      · exact h2 x hx
    · rcases h3 with h3 | ⟨x, hx, h3⟩
      · rw [h3]
        by_cases e : y.dead < a
        · rw [if_pos e]; exact Or.inr ⟨y, List.mem_cons_self, rfl⟩
        · rw [if_neg e]; exact Or.inl rfl
      · exact Or.inr ⟨x, List.mem_cons_of_mem _ hx, h3⟩
theorem firstD_le {l : List Wt} {x : Wt} (h : x ∈ l) : firstD l ≤ x.dead := (foldl_le l _).2.1 x h
theorem firstD_mem {s : OSt} (hs : s.ok) (hne : s.l ≠ []) : ∃ x ∈ s.l, x.dead = firstD s.l := by
  rcases (foldl_le s.l 4611686018427387904).2.2 with h | h
  · obtain ⟨x, hx⟩ := List.exists_mem_of_ne_nil _ hne
    have h1 := (hs.may x hx).2.1.2
    have h2 := firstD_le hx
    unfold firstD at h2; omega
  · exact h
/-- Is one sought on the way? -/
def cand (s : OSt) (up : Bool) (x : Wt) : Prop := x.dead = firstD s.l ∧ 0 ≤ off up s.head x.track
instance (s : OSt) (up : Bool) (x : Wt) : Decidable (cand s up x) := by unfold cand; infer_instance
/-- Is one nearer than another one? -/
def nearer (s : OSt) (up : Bool) (x y : Wt) : Prop := off up s.head x.track < off up s.head y.track ∨ (off up s.head x.track = off up s.head y.track ∧ x.id < y.id)
instance (s : OSt) (up : Bool) (x y : Wt) : Decidable (nearer s up x y) := by unfold nearer; infer_instance
/-- The nearest one on the way, of the first k. -/
def NearP (s : OSt) (up : Bool) (k : Nat) (r : Option Wt) : Prop :=
  match r with
  | none => ∀ (i : Nat) (x : Wt), i < k → s.l[i]? = some x → ¬ cand s up x
  | some w => (∃ i, i < k ∧ s.l[i]? = some w) ∧ cand s up w ∧ ∀ (i : Nat) (x : Wt), i < k → s.l[i]? = some x → cand s up x → ¬ nearer s up x w
/-- One more is looked at. -/
def nearStep (s : OSt) (up : Bool) (r : Option Wt) (x : Wt) : Option Wt :=
  if cand s up x then (match r with | none => some x | some w => if nearer s up x w then some x else some w) else r
theorem nearer_irr (s : OSt) (up : Bool) (x : Wt) : ¬ nearer s up x x := by unfold nearer; omega
theorem NearP.step {s : OSt} {up : Bool} {k : Nat} {r : Option Wt} {x : Wt} (h : NearP s up k r) (hx : s.l[k]? = some x) : NearP s up (k + 1) (nearStep s up r x) := by
  unfold nearStep
  by_cases hc : cand s up x
  · rw [if_pos hc]
    cases r with
    | none =>
      refine ⟨⟨k, by omega, hx⟩, hc, fun i y hi hy hcy => ?_⟩
      by_cases e : i = k
      · subst e; rw [hx] at hy; injection hy with hy; subst hy; exact nearer_irr _ _ _
      · exact absurd hcy (h i y (by omega) hy)
    | some w =>
      obtain ⟨⟨j, hj, hw⟩, hcw, hle⟩ := h
      by_cases hn : nearer s up x w
      · simp only [if_pos hn]
        refine ⟨⟨k, by omega, hx⟩, hc, fun i y hi hy hcy => ?_⟩
        by_cases e : i = k
        · subst e; rw [hx] at hy; injection hy with hy; subst hy; exact nearer_irr _ _ _
        · have := hle i y (by omega) hy hcy
          unfold nearer at *; omega
      · simp only [if_neg hn]
        refine ⟨⟨j, by omega, hw⟩, hcw, fun i y hi hy hcy => ?_⟩
        by_cases e : i = k
        · subst e; rw [hx] at hy; injection hy with hy; subst hy; exact hn
        · exact hle i y (by omega) hy hcy
  · rw [if_neg hc]
    cases r with
    | none =>
      intro i y hi hy
      by_cases e : i = k
      · subst e; rw [hx] at hy; injection hy with hy; subst hy; exact hc
      · exact h i y (by omega) hy
    | some w =>
      obtain ⟨⟨j, hj, hw⟩, hcw, hle⟩ := h
      refine ⟨⟨j, by omega, hw⟩, hcw, fun i y hi hy hcy => ?_⟩
      by_cases e : i = k
      · subst e; rw [hx] at hy; injection hy with hy; subst hy; exact absurd hcy hc
      · exact hle i y (by omega) hy hcy
theorem NearP.uniq {s : OSt} (hs : s.ok) {up : Bool} {r r' : Option Wt} (h : NearP s up s.l.length r) (h' : NearP s up s.l.length r') : r = r' := by
  cases r with
  | none =>
    cases r' with
    | none => rfl
    | some w => obtain ⟨⟨i, hi, hw⟩, hc, _⟩ := h'; exact absurd hc (h i w hi hw)
  | some w =>
    obtain ⟨⟨i, hi, hw⟩, hc, hle⟩ := h
    cases r' with
    | none => exact absurd hc (h' i w hi hw)
    | some v =>
      obtain ⟨⟨j, hj, hv⟩, hcv, hle'⟩ := h'
      have h1 := hle j v hj hv hcv
      have h2 := hle' i w hi hw hc
      have : w.id = v.id := by unfold nearer at *; omega
      have e := hs.one i j w v hw hv this
      subst e; rw [hw] at hv; exact hv
theorem nearP_ex (s : OSt) (up : Bool) : ∀ k, k ≤ s.l.length → ∃ r, NearP s up k r
  | 0, _ => ⟨none, fun i x h => by omega⟩
  | k + 1, h => by
    obtain ⟨r, hr⟩ := nearP_ex s up k (by omega)
    obtain ⟨x, hx⟩ : ∃ x, s.l[k]? = some x := ⟨_, List.getElem?_eq_getElem (by omega)⟩
    exact ⟨_, hr.step hx⟩
/-- The next one: it, whether the head goes up to it, the answer. -/
def NextP (s : OSt) (x : Wt) (up : Bool) (f : Int) : Prop :=
  (s.l = [] ∧ x = ⟨0, 0, 0⟩ ∧ up = false ∧ f = 5) ∨ (NearP s s.up s.l.length (some x) ∧ up = s.up ∧ f = 0) ∨ (NearP s s.up s.l.length none ∧ NearP s (!s.up) s.l.length (some x) ∧ up = (!s.up) ∧ f = 0)
theorem off_neg (up : Bool) (h t : Int) : off (!up) h t = - off up h t := by cases up <;> simp [off] <;> omega
theorem nextP_ex {s : OSt} (hs : s.ok) : ∃ x up f, NextP s x up f := by
  by_cases hne : s.l = []
  · exact ⟨_, _, _, Or.inl ⟨hne, rfl, rfl, rfl⟩⟩
  · obtain ⟨r, hr⟩ := nearP_ex s s.up s.l.length (Nat.le_refl _)
    cases r with
    | some x => exact ⟨_, _, _, Or.inr (Or.inl ⟨hr, rfl, rfl⟩)⟩
    | none =>
      obtain ⟨r', hr'⟩ := nearP_ex s (!s.up) s.l.length (Nat.le_refl _)
      cases r' with
      | some x => exact ⟨_, _, _, Or.inr (Or.inr ⟨hr, hr', rfl, rfl⟩)⟩
      | none =>
        exfalso
        obtain ⟨x, hx, hd⟩ := firstD_mem hs hne
        obtain ⟨i, hi⟩ := List.mem_iff_getElem?.1 hx
        have hil := (List.getElem?_eq_some_iff.1 hi).1
        have h1 := hr i x hil hi
        have h2 := hr' i x hil hi
        have h3 := off_neg s.up s.head x.track
        apply h1
        refine ⟨hd, ?_⟩
        by_cases e : 0 ≤ off s.up s.head x.track
        · exact e
        · exact absurd ⟨hd, by omega⟩ h2
theorem NearP.mem {s : OSt} {up : Bool} {k : Nat} {x : Wt} (h : NearP s up k (some x)) : ∃ i : Nat, s.l[i]? = some x := by
  obtain ⟨⟨i, _, hi⟩, _⟩ := h
  exact ⟨i, hi⟩
theorem NextP.uniq {s : OSt} (hs : s.ok) {x y : Wt} {a b : Bool} {f g : Int} (h : NextP s x a f) (k : NextP s y b g) : x = y ∧ a = b ∧ f = g := by
  rcases h with ⟨h1, rfl, rfl, rfl⟩ | ⟨h1, rfl, rfl⟩ | ⟨h1, h2, rfl, rfl⟩ <;> rcases k with ⟨k1, rfl, rfl, rfl⟩ | ⟨k1, rfl, rfl⟩ | ⟨k1, k2, rfl, rfl⟩
  · exact ⟨rfl, rfl, rfl⟩
  · obtain ⟨i, hi⟩ := NearP.mem k1; rw [h1] at hi; simp at hi
  · obtain ⟨i, hi⟩ := NearP.mem k2; rw [h1] at hi; simp at hi
  · obtain ⟨i, hi⟩ := NearP.mem h1; rw [k1] at hi; simp at hi
  · have := NearP.uniq hs h1 k1; injection this with this; exact ⟨this, rfl, rfl⟩
  · have := NearP.uniq hs h1 k1; cases this
  · obtain ⟨i, hi⟩ := NearP.mem h2; rw [k1] at hi; simp at hi
  · have := NearP.uniq hs h1 k1; cases this
  · have := NearP.uniq hs h2 k2; injection this with this; exact ⟨this, rfl, rfl⟩
theorem NextP.mem {s : OSt} {x : Wt} {up : Bool} (h : NextP s x up 0) : ∃ i : Nat, s.l[i]? = some x := by
  rcases h with ⟨_, _, _, h⟩ | ⟨h, _, _⟩ | ⟨_, h, _, _⟩
  · omega
  · exact NearP.mem h
  · exact NearP.mem h
/-- What Take does. -/
def TakeP (s : OSt) (x : Wt) (f : Int) (s' : OSt) : Prop := ∃ up, NextP s x up f ∧ ((f = 5 ∧ s' = s) ∨ (f = 0 ∧ ∃ i : Nat, s.l[i]? = some x ∧ s' = ⟨s.l.eraseIdx i, x.track, up⟩))
theorem takeP_ex {s : OSt} (hs : s.ok) : ∃ x f s', TakeP s x f s' := by
  obtain ⟨x, up, f, h⟩ := nextP_ex hs
  have h0 := h
  rcases h with ⟨_, _, _, hf⟩ | ⟨_, _, hf⟩ | ⟨_, _, _, hf⟩
  · exact ⟨x, f, s, up, h0, Or.inl ⟨hf, rfl⟩⟩
  all_goals
    subst hf
    obtain ⟨i, hi⟩ := h0.mem
    exact ⟨x, 0, _, up, h0, Or.inr ⟨rfl, i, hi, rfl⟩⟩
theorem TakeP.ok {s s' : OSt} {x : Wt} {f : Int} (h : TakeP s x f s') (hs : s.ok) : s'.ok := by
  obtain ⟨up, hn, ⟨_, rfl⟩ | ⟨_, i, hi, rfl⟩⟩ := h
  · exact hs
  · have h1 := hs.erase i
    exact ⟨h1.may, h1.len, h1.one, (hs.may x (List.mem_of_getElem? hi)).2.2⟩
/-! ### In memory -/
def ovs : List Wt → List Value
  | [] => []
  | x :: t => .int .i64 x.id :: .int .u64 x.dead :: .int .i64 x.track :: ovs t
theorem ovs_len : ∀ l, (ovs l).length = l.length * 3
  | [] => rfl
  | x :: t => by simp only [ovs, List.length_cons, ovs_len t]; omega
theorem ovs_app : ∀ l m, ovs (l ++ m) = ovs l ++ ovs m
  | [], m => rfl
  | x :: t, m => by simp [ovs, ovs_app t m]
theorem ovs_at : ∀ (l : List Wt) (i : Nat) (x : Wt), l[i]? = some x → (ovs l)[i * 3]? = some (.int .i64 x.id) ∧ (ovs l)[i * 3 + 1]? = some (.int .u64 x.dead) ∧ (ovs l)[i * 3 + 2]? = some (.int .i64 x.track)
  | [], i, x, h => by simp at h
  | y :: t, 0, x, h => by simp at h; subst h; simp [ovs]
  | y :: t, i + 1, x, h => by
    have h := ovs_at t i x (by simpa using h)
    rw [show (i + 1) * 3 = i * 3 + 1 + 1 + 1 by omega]
    simpa [ovs, Nat.add_right_comm] using h
theorem ovs_take : ∀ (l : List Wt) (i : Nat), (ovs l).take (i * 3) = ovs (l.take i)
  | [], i => by simp [ovs]
  | x :: t, 0 => by simp [ovs]
  | x :: t, i + 1 => by
    rw [show (i + 1) * 3 = i * 3 + 1 + 1 + 1 by omega]
    simp only [ovs, List.take_succ_cons, ovs_take t i]
theorem ovs_drop : ∀ (l : List Wt) (i : Nat), (ovs l).drop (i * 3) = ovs (l.drop i)
  | [], i => by simp [ovs]
  | x :: t, 0 => by simp [ovs]
  | x :: t, i + 1 => by
    rw [show (i + 1) * 3 = i * 3 + 1 + 1 + 1 by omega]
    simp only [ovs, List.drop_succ_cons, ovs_drop t i]
theorem ovs_one : ∀ l, ∀ u ∈ ovs l, u.oneCell' = true
  | [], u, h => by simp [ovs] at h
  | x :: t, u, h => by
    simp only [ovs, List.mem_cons] at h
    rcases h with rfl | rfl | rfl | h
    · rfl
    · rfl
    · rfl
    · exact ovs_one t u h
end Go.Proofs.Ytmikjbhhnndncaa
