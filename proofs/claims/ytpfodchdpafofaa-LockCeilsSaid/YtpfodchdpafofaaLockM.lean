/- Layer 23: locks with ceilings. Plain theorems. -/
import Derived.Test.YtpfodchdpafofaaMapI
namespace Go.Proofs.Ytpfodchdpafofaa
open Go.RowKit
set_option linter.unusedVariables false
/-- A member: its own urgency, and the locks that it holds, as it took them. -/
structure Mb where
  prio : Int
  held : List Nat
/-- A keeper. -/
structure KS where
  ceils : List Int
  mem : Nat → Option Mb
def KS.new (l : List Int) : KS := ⟨l, fun _ => none⟩
def KS.ceil (s : KS) (x : Nat) : Int := s.ceils.getD x 0
def KS.set (s : KS) (i : Nat) (m : Option Mb) : KS := { s with mem := fun j => if j = i then m else s.mem j }
/-- A keeper that may be. -/
structure KS.ok (s : KS) : Prop where
  l1 : 1 ≤ s.ceils.length
  l2 : s.ceils.length ≤ 16
  ce : ∀ c ∈ s.ceils, 0 ≤ c ∧ c ≤ 100
  id : ∀ i m, s.mem i = some m → i < 64
  pr : ∀ i m, s.mem i = some m → 0 ≤ m.prio ∧ m.prio ≤ 100
  nd : ∀ i m, s.mem i = some m → m.held.Nodup
  lt : ∀ i m x, s.mem i = some m → x ∈ m.held → x < s.ceils.length
  one : ∀ i j m m' x, s.mem i = some m → s.mem j = some m' → x ∈ m.held → x ∈ m'.held → i = j
theorem KS.new_ok {l : List Int} (h1 : 1 ≤ l.length) (h2 : l.length ≤ 16) (h3 : ∀ c ∈ l, 0 ≤ c ∧ c ≤ 100) : (KS.new l).ok :=
  ⟨h1, h2, h3, fun i m h => (by cases h), fun i m h => (by cases h), fun i m h => (by cases h), fun i m x h => (by cases h), fun i j m m' x h => (by cases h)⟩
theorem nodup_len : ∀ (n : Nat) (l : List Nat), l.Nodup → (∀ x ∈ l, x < n) → l.length ≤ n
  | 0, l, _, h => by
    cases l with
    | nil => exact Nat.le_refl _
    | cons a t => exact absurd (h a List.mem_cons_self) (by omega)
  | n + 1, l, hd, h => by
    have h1 := nodup_len n (l.erase n) (hd.erase n) (fun x hx => by
      have h2 := h x (List.mem_of_mem_erase hx)
      have h3 : x ≠ n := fun e => by subst e; exact (List.Nodup.not_mem_erase hd) hx
      omega)
    have h2 := List.length_erase (a := n) (l := l)
    split at h2 <;> omega
theorem KS.ok.len {s : KS} (h : s.ok) {i : Nat} {m : Mb} (hm : s.mem i = some m) : m.held.length ≤ 16 :=
  Nat.le_trans (nodup_len _ _ (h.nd i m hm) fun x hx => h.lt i m x hm hx) h.l2
theorem KS.ceil_mem {s : KS} {x : Nat} (h : x < s.ceils.length) : s.ceil x ∈ s.ceils := by
  unfold KS.ceil; rw [List.getD_eq_getElem?_getD, List.getElem?_eq_getElem h]; exact List.getElem_mem h
theorem KS.ok.ceilB {s : KS} (h : s.ok) {x : Nat} (hx : x < s.ceils.length) : 0 ≤ s.ceil x ∧ s.ceil x ≤ 100 := h.ce _ (KS.ceil_mem hx)
/-- A member's urgency now. -/
def KS.low (s : KS) (l : List Nat) (p : Int) : Int := l.foldl (fun p x => min p (s.ceil x)) p
def KS.cur (s : KS) (m : Mb) : Int := s.low m.held m.prio
theorem low_le (s : KS) : ∀ (l : List Nat) (p : Int), s.low l p ≤ p ∧ (∀ x ∈ l, s.low l p ≤ s.ceil x) ∧ (s.low l p = p ∨ ∃ x ∈ l, s.low l p = s.ceil x)
  | [], p => ⟨Int.le_refl _, fun x h => (by cases h), Or.inl rfl⟩
  | a :: t, p => by
    obtain ⟨h1, h2, h3⟩ := low_le s t (min p (s.ceil a))
    have e : s.low (a :: t) p = s.low t (min p (s.ceil a)) := rfl
    rw [e]
    refine ⟨by omega, fun x hx => ?_, ?_⟩
    · rcases List.mem_cons.1 hx with rfl | hx
      · omega
      · exact h2 x hx
    · rcases h3 with h3 | ⟨x, hx, h3⟩
      · rw [h3]
        by_cases hp : p ≤ s.ceil a
        · exact Or.inl (by omega)
        · exact Or.inr ⟨a, List.mem_cons_self, by omega⟩
      · exact Or.inr ⟨x, List.mem_cons_of_mem _ hx, h3⟩
theorem low_snoc (s : KS) (l : List Nat) (x : Nat) (p : Int) : s.low (l ++ [x]) p = min (s.low l p) (s.ceil x) := by simp [KS.low]
theorem cur_le (s : KS) (m : Mb) : s.cur m ≤ m.prio := (low_le s m.held m.prio).1
theorem cur_nil (s : KS) {m : Mb} (h : m.held = []) : s.cur m = m.prio := by unfold KS.cur; rw [h]; rfl
theorem cur_held (s : KS) (m : Mb) {x : Nat} (hx : x ∈ m.held) : s.cur m ≤ s.ceil x := (low_le s m.held m.prio).2.1 x hx
theorem cur_set (s : KS) (i : Nat) (o : Option Mb) (m : Mb) : (s.set i o).cur m = s.cur m := rfl
/-- Who holds a lock. -/
def holds (s : KS) (i x : Nat) : Prop := ∃ m, s.mem i = some m ∧ x ∈ m.held
theorem holds_ex (s : KS) (hs : s.ok) (x : Nat) : (∃ i, holds s i x) ∨ ∀ i, ¬ holds s i x := by
  rcases Classical.em (∃ i, holds s i x) with h | h
  · exact Or.inl h
  · exact Or.inr fun i hi => h ⟨i, hi⟩
/-! ### What each call tells and does -/
def TakeP (s : KS) (i : Nat) (x f : Int) (s' : KS) : Prop :=
  ((x < 0 ∨ (s.ceils.length : Int) ≤ x) ∧ f = 1 ∧ s' = s) ∨
  ∃ y : Nat, (y : Int) = x ∧ y < s.ceils.length ∧
    ((s.mem i = none ∧ f = 6 ∧ s' = s) ∨
     ∃ m, s.mem i = some m ∧ ((y ∈ m.held ∧ f = 7 ∧ s' = s) ∨ (y ∉ m.held ∧ m.prio < s.ceil y ∧ f = 11 ∧ s' = s) ∨
      (y ∉ m.held ∧ s.ceil y ≤ m.prio ∧ (∃ j, holds s j y) ∧ f = 10 ∧ s' = s) ∨
      (y ∉ m.held ∧ s.ceil y ≤ m.prio ∧ (∀ j, ¬ holds s j y) ∧ f = 0 ∧ s' = s.set i (some ⟨m.prio, m.held ++ [y]⟩))))
theorem takeP_ex (s : KS) (hs : s.ok) (i : Nat) (x : Int) : ∃ f s', TakeP s i x f s' := by
  by_cases h1 : x < 0 ∨ (s.ceils.length : Int) ≤ x
  · exact ⟨_, _, Or.inl ⟨h1, rfl, rfl⟩⟩
  · have e : ((x.toNat : Nat) : Int) = x := by omega
    have hl : x.toNat < s.ceils.length := by omega
    cases hm : s.mem i with
    | none => exact ⟨_, _, Or.inr ⟨x.toNat, e, hl, Or.inl ⟨hm, rfl, rfl⟩⟩⟩
    | some m =>
      by_cases h2 : x.toNat ∈ m.held
      · exact ⟨_, _, Or.inr ⟨x.toNat, e, hl, Or.inr ⟨m, hm, Or.inl ⟨h2, rfl, rfl⟩⟩⟩⟩
      · by_cases h3 : m.prio < s.ceil x.toNat
        · exact ⟨_, _, Or.inr ⟨x.toNat, e, hl, Or.inr ⟨m, hm, Or.inr (Or.inl ⟨h2, h3, rfl, rfl⟩)⟩⟩⟩
        · rcases holds_ex s hs x.toNat with h4 | h4
          · exact ⟨_, _, Or.inr ⟨x.toNat, e, hl, Or.inr ⟨m, hm, Or.inr (Or.inr (Or.inl ⟨h2, by omega, h4, rfl, rfl⟩))⟩⟩⟩
          · exact ⟨_, _, Or.inr ⟨x.toNat, e, hl, Or.inr ⟨m, hm, Or.inr (Or.inr (Or.inr ⟨h2, by omega, h4, rfl, rfl⟩))⟩⟩⟩
theorem KS.ok.set_ {s : KS} (hs : s.ok) {i : Nat} {m : Mb} (hi : i < 64) (hp : 0 ≤ m.prio ∧ m.prio ≤ 100) (hd : m.held.Nodup) (hl : ∀ x ∈ m.held, x < s.ceils.length) (ho : ∀ x ∈ m.held, ∀ j, j ≠ i → ¬ holds s j x) : (s.set i (some m)).ok := by
  refine ⟨hs.l1, hs.l2, hs.ce, fun j m' h => ?_, fun j m' h => ?_, fun j m' h => ?_, fun j m' x h hx => ?_, fun j k m1 m2 x h1 h2 x1 x2 => ?_⟩
  · have h : (if j = i then some m else s.mem j) = some m' := h
    split at h
    · omega
    · exact hs.id j m' h
  · have h : (if j = i then some m else s.mem j) = some m' := h
    split at h
    · injection h with h; subst h; exact hp
    · exact hs.pr j m' h
  · have h : (if j = i then some m else s.mem j) = some m' := h
    split at h
    · injection h with h; subst h; exact hd
    · exact hs.nd j m' h
  · have h : (if j = i then some m else s.mem j) = some m' := h
    split at h
    · injection h with h; subst h; exact hl x hx
    · exact hs.lt j m' x h hx
  · have h1 : (if j = i then some m else s.mem j) = some m1 := h1
    have h2 : (if k = i then some m else s.mem k) = some m2 := h2
    by_cases e1 : j = i <;> by_cases e2 : k = i
    · omega
    · rw [if_pos e1] at h1; rw [if_neg e2] at h2; injection h1 with h1; subst h1
      exact absurd ⟨m2, h2, x2⟩ (ho x x1 k e2)
    · rw [if_neg e1] at h1; rw [if_pos e2] at h2; injection h2 with h2; subst h2
      exact absurd ⟨m1, h1, x1⟩ (ho x x2 j e1)
    · rw [if_neg e1] at h1; rw [if_neg e2] at h2
      exact hs.one j k m1 m2 x h1 h2 x1 x2
theorem KS.ok.gone {s : KS} (hs : s.ok) (i : Nat) : (s.set i none).ok := by
  have key : ∀ j m, (s.set i none).mem j = some m → s.mem j = some m := fun j m h => by
    have h : (if j = i then none else s.mem j) = some m := h
    split at h
    · cases h
    · exact h
  exact ⟨hs.l1, hs.l2, hs.ce, fun j m h => hs.id j m (key j m h), fun j m h => hs.pr j m (key j m h), fun j m h => hs.nd j m (key j m h), fun j m x h => hs.lt j m x (key j m h), fun j k m m' x h1 h2 => hs.one j k m m' x (key j m h1) (key k m' h2)⟩
theorem TakeP.ok {s s' : KS} {i : Nat} {x f : Int} (h : TakeP s i x f s') (hs : s.ok) : s'.ok := by
  rcases h with ⟨_, _, rfl⟩ | ⟨y, _, hy, ⟨_, _, rfl⟩ | ⟨m, hm, ⟨_, _, rfl⟩ | ⟨_, _, _, rfl⟩ | ⟨_, _, _, _, rfl⟩ | ⟨h1, _, h3, _, rfl⟩⟩⟩
  · exact hs
  · exact hs
  · exact hs
  · exact hs
  · exact hs
  · refine hs.set_ (hs.id i m hm) (hs.pr i m hm) ?_ (fun x hx => ?_) (fun x hx j hj hh => ?_)
    · rw [List.nodup_append]
      refine ⟨hs.nd i m hm, by simp, fun a ha b hb => ?_⟩
      simp at hb; subst hb
      exact fun e => h1 (e ▸ ha)
    · rcases List.mem_append.1 hx with hx | hx
      · exact hs.lt i m x hm hx
      · simp at hx; subst hx; exact hy
    · rcases List.mem_append.1 hx with hx | hx
      · obtain ⟨m', h4, h5⟩ := hh
        exact hj (hs.one j i m' m x h4 hm h5 hx)
      · simp at hx; subst hx; exact h3 j hh
/-- A lock that it took last, or another one that it holds, is given back. -/
def BackP (s : KS) (i y : Nat) (f : Int) (s' : KS) : Prop := ∃ m, s.mem i = some m ∧ y ∈ m.held ∧
  ((∃ pre, m.held = pre ++ [y] ∧ f = 0 ∧ s' = s.set i (some ⟨m.prio, pre⟩)) ∨ (∃ pre z, m.held = pre ++ [z] ∧ z ≠ y ∧ f = 12 ∧ s' = s))
theorem backP_ex (s : KS) {i y : Nat} {m : Mb} (hm : s.mem i = some m) (hy : y ∈ m.held) : ∃ f s', BackP s i y f s' := by
  have hne : m.held ≠ [] := List.ne_nil_of_mem hy
  have e := List.dropLast_concat_getLast hne
  by_cases h : m.held.getLast hne = y
  · exact ⟨_, _, m, hm, hy, Or.inl ⟨_, by rw [← h]; exact e.symm, rfl, rfl⟩⟩
  · exact ⟨_, _, m, hm, hy, Or.inr ⟨_, _, e.symm, h, rfl, rfl⟩⟩
theorem BackP.ok {s s' : KS} {i y : Nat} {f : Int} (h : BackP s i y f s') (hs : s.ok) : s'.ok := by
  obtain ⟨m, hm, hy, ⟨pre, he, _, rfl⟩ | ⟨_, _, _, _, _, rfl⟩⟩ := h
  · have hsub : ∀ x ∈ pre, x ∈ m.held := fun x hx => by rw [he]; simp [hx]
    refine hs.set_ (hs.id i m hm) (hs.pr i m hm) ?_ (fun x hx => hs.lt i m x hm (hsub x hx)) (fun x hx j hj ⟨m', h4, h5⟩ => hj (hs.one j i m' m x h4 hm h5 (hsub x hx)))
    have := hs.nd i m hm
    rw [he, List.nodup_append] at this
    exact this.1
  · exact hs
theorem know_ok {s : KS} (hs : s.ok) {i : Nat} (hi : i < 64) {p : Int} (hp : 0 ≤ p ∧ p ≤ 100) : (s.set i (some ⟨p, []⟩)).ok :=
  hs.set_ hi hp List.nodup_nil (fun x hx => by cases hx) (fun x hx => by cases hx)
/-! ### Only the most urgent acts -/
/-- Of two that hold locks one is, by its own urgency, more urgent than the other one is now. -/
def Stack (s : KS) : Prop := ∀ i j m m', i ≠ j → s.mem i = some m → s.mem j = some m' → m.held ≠ [] → m'.held ≠ [] → m.prio < s.cur m' ∨ m'.prio < s.cur m
/-- The most urgent one; of alike ones who holds a lock. -/
def First (s : KS) (i : Nat) : Prop := ∃ m, s.mem i = some m ∧ ∀ j m', s.mem j = some m' → s.cur m ≤ s.cur m' ∧ (s.cur m = s.cur m' → m'.held ≠ [] → m.held ≠ [])
theorem first_above {s : KS} (hK : Stack s) {i j : Nat} {m m' : Mb} (hF : First s i) (hm : s.mem i = some m) (hj : s.mem j = some m') (hne : i ≠ j) (hh : m'.held ≠ []) : m.prio < s.cur m' := by
  obtain ⟨m0, h0, hF⟩ := hF
  rw [hm] at h0; injection h0 with h0; subst h0
  obtain ⟨h1, h2⟩ := hF j m' hj
  by_cases e : m.held = []
  · have := cur_nil s e
    rcases Int.lt_or_eq_of_le h1 with h3 | h3
    · omega
    · exact absurd e (h2 h3 hh)
  · rcases hK i j m m' hne hm hj e hh with h | h
    · exact h
    · have := cur_le s m'
      omega
theorem never_busy {s s' : KS} (hs : s.ok) (hK : Stack s) {i : Nat} {x f : Int} (hF : First s i) (hP : TakeP s i x f s') : f ≠ 10 := by
  rcases hP with ⟨_, rfl, _⟩ | ⟨y, _, hy, ⟨_, rfl, _⟩ | ⟨m, hm, ⟨_, rfl, _⟩ | ⟨_, _, rfl, _⟩ | ⟨h1, h2, ⟨j, m', hj, hh⟩, rfl, _⟩ | ⟨_, _, _, rfl, _⟩⟩⟩
  · decide
  · decide
  · decide
  · decide
  · have hne : i ≠ j := fun e => by subst e; rw [hm] at hj; injection hj with hj; subst hj; exact h1 hh
    have h3 := first_above hK hF hm hj hne (List.ne_nil_of_mem hh)
    have h4 := cur_held s m' hh
    omega
  · decide
theorem Stack.set_ {s : KS} (hK : Stack s) {i : Nat} {m : Option Mb} (h : ∀ m0 j m', m = some m0 → m0.held ≠ [] → i ≠ j → s.mem j = some m' → m'.held ≠ [] → m0.prio < s.cur m' ∨ m'.prio < s.cur m0) : Stack (s.set i m) := by
  intro a b ma mb hne h1 h2 n1 n2
  have h1 : (if a = i then m else s.mem a) = some ma := h1
  have h2 : (if b = i then m else s.mem b) = some mb := h2
  show ma.prio < s.cur mb ∨ mb.prio < s.cur ma
  by_cases e1 : a = i <;> by_cases e2 : b = i
  · omega
  · rw [if_pos e1] at h1; rw [if_neg e2] at h2
    exact h ma b mb h1 n1 (fun e => e2 e.symm) h2 n2
  · rw [if_neg e1] at h1; rw [if_pos e2] at h2
    exact (h mb a ma h2 n2 (fun e => e1 e.symm) h1 n1).symm
  · rw [if_neg e1] at h1; rw [if_neg e2] at h2
    exact hK a b ma mb hne h1 h2 n1 n2
theorem take_stack {s s' : KS} (hK : Stack s) {i : Nat} {x f : Int} (hF : First s i) (hP : TakeP s i x f s') : Stack s' := by
  rcases hP with ⟨_, _, rfl⟩ | ⟨y, _, hy, ⟨_, _, rfl⟩ | ⟨m, hm, ⟨_, _, rfl⟩ | ⟨_, _, _, rfl⟩ | ⟨_, _, _, _, rfl⟩ | ⟨_, _, _, _, rfl⟩⟩⟩
  · exact hK
  · exact hK
  · exact hK
  · exact hK
  · exact hK
  · refine hK.set_ fun m0 j m' e _ hne hj hh => ?_
    injection e with e; subst e
    exact Or.inl (show m.prio < s.cur m' from first_above hK hF hm hj hne hh)
theorem back_stack {s s' : KS} (hK : Stack s) {i y : Nat} {f : Int} (hF : First s i) (hP : BackP s i y f s') : Stack s' := by
  obtain ⟨m, hm, hy, ⟨pre, he, _, rfl⟩ | ⟨_, _, _, _, _, rfl⟩⟩ := hP
  · refine hK.set_ fun m0 j m' e _ hne hj hh => ?_
    injection e with e; subst e
    exact Or.inl (show m.prio < s.cur m' from first_above hK hF hm hj hne hh)
  · exact hK
theorem know_stack {s : KS} (hK : Stack s) (i : Nat) (p : Int) : Stack (s.set i (some ⟨p, []⟩)) :=
  hK.set_ fun m0 j m' e hh _ _ _ => by injection e with e; subst e; exact absurd rfl hh
theorem gone_stack {s : KS} (hK : Stack s) (i : Nat) : Stack (s.set i none) := hK.set_ fun m0 j m' e => by cases e
end Go.Proofs.Ytpfodchdpafofaa
