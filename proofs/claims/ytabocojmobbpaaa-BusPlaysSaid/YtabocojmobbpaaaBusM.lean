/- Layer 6: who has a slot, in plain numbers. -/
import Derived.Test.YtabocojmobbpaaaShareO
namespace Go.Proofs.Ytabocojmobbpaaa
set_option linter.unusedVariables false
/-- Masters, and the phase. -/
structure BC where
  n : Nat
  prio : Nat → Int
  burst : Nat → Int
  B : Nat → Int
  P : Nat → Int
  ph : Int
/-- What each took, how often each was stalled, the first slot that may be asked about, who had the last one, and how many in a row. -/
structure BS where
  ws : Nat → List (Int × Int)
  st : Nat → Int
  next : Int
  who : Int
  row : Int
/-- Masters that may be. -/
structure BC.OK (C : BC) : Prop where
  n1 : 1 ≤ C.n
  n16 : C.n ≤ 16
  prio : ∀ i, i < C.n → 0 ≤ C.prio i ∧ C.prio i ≤ 100
  burst : ∀ i, i < C.n → 0 ≤ C.burst i ∧ C.burst i ≤ 1000
  share : ∀ i, i < C.n → 1 ≤ C.B i ∧ C.B i ≤ C.P i ∧ C.P i ≤ 1099511627776
  ph : 0 ≤ C.ph ∧ C.ph < 4611686018427387904
/-- What holds between two calls. -/
structure BS.OK (C : BC) (s : BS) (k : Nat) : Prop where
  st : ∀ i, i < C.n → 0 ≤ s.st i ∧ s.st i ≤ k
  next : C.ph ≤ s.next ∧ s.next ≤ 4611686018427387904
  who : -1 ≤ s.who ∧ s.who < C.n
  row : 0 ≤ s.row ∧ s.row ≤ k
  nob : s.who = -1 → s.row = 0
  yes : 0 ≤ s.who → 1 ≤ s.row
  len : ∀ i, i < C.n → (s.ws i).length ≤ k
def upd {α : Type} (f : Nat → α) (i : Nat) (x : α) : Nat → α := fun j => if j = i then x else f j
def BC.K (C : BC) (i : Nat) (now : Int) : Int := (now - C.ph) / C.P i
/-- What is left of a share. -/
def BC.left (C : BC) (ws : Nat → List (Int × Int)) (i : Nat) (now : Int) : Int := C.B i - sw (C.K i now) (ws i)
def BS.who1 (s : BS) (now : Int) : Int := if s.next < now then -1 else s.who
def BS.row1 (s : BS) (now : Int) : Int := if s.next < now then 0 else s.row
/-- May it have the slot, of who had the last one, and how many in a row? -/
def mayB (C : BC) (ws : Nat → List (Int × Int)) (who row now : Int) (i : Nat) : Bool := !(decide (0 < C.burst i) && (decide (who = i) && decide (C.burst i ≤ row))) && decide (0 < C.left ws i now)
/-- The most urgent of the first k that are sought, of alike ones the first; -1: none. -/
def fst (q : Nat → Bool) (prio : Nat → Int) : Nat → Int
  | 0 => -1
  | k + 1 => if q k = true ∧ (fst q prio k = -1 ∨ prio k < prio (fst q prio k).toNat) then k else fst q prio k
theorem fst_bd (q : Nat → Bool) (prio : Nat → Int) : ∀ k : Nat, -1 ≤ fst q prio k ∧ fst q prio k < k
  | 0 => by simp [fst]
  | k + 1 => by have := fst_bd q prio k; unfold fst; split <;> omega
theorem fst_yes {q : Nat → Bool} {prio : Nat → Int} {k : Nat} (h1 : q k = true) (h2 : fst q prio k = -1 ∨ prio k < prio (fst q prio k).toNat) : fst q prio (k + 1) = k := by
  rw [fst, if_pos ⟨h1, h2⟩]
theorem fst_no {q : Nat → Bool} {prio : Nat → Int} {k : Nat} (h : ¬ (q k = true ∧ (fst q prio k = -1 ∨ prio k < prio (fst q prio k).toNat))) : fst q prio (k + 1) = fst q prio k := by
  rw [fst, if_neg h]
theorem fst_like {q q' : Nat → Bool} {prio : Nat → Int} : ∀ {k : Nat}, (∀ i, i < k → q i = q' i) → fst q prio k = fst q' prio k
  | 0, _ => rfl
  | k + 1, h => by unfold fst; rw [fst_like (k := k) fun i hi => h i (by omega), h k (by omega)]
theorem fst_q {q : Nat → Bool} {prio : Nat → Int} : ∀ {k i : Nat}, fst q prio k = i → q i = true
  | 0, i, h => by simp [fst] at h
  | k + 1, i, h => by
    unfold fst at h
    split at h
    · rename_i hc
      have : k = i := by omega
      rw [← this]; exact hc.1
    · exact fst_q h
/-- Nobody is sought. -/
theorem fst_none {q : Nat → Bool} {prio : Nat → Int} : ∀ {k : Nat}, fst q prio k = -1 → ∀ i, i < k → q i = false
  | 0, _, i, hi => by omega
  | k + 1, h, i, hi => by
    unfold fst at h
    split at h
    · omega
    · rename_i hc
      by_cases e : i = k
      · subst e
        cases hq : q i
        · rfl
        · exact absurd ⟨hq, Or.inl h⟩ hc
      · exact fst_none h i (by omega)
/-- Who is found is as urgent as all that are sought. -/
theorem fst_least {q : Nat → Bool} {prio : Nat → Int} : ∀ {k b : Nat}, fst q prio k = b → ∀ i, i < k → q i = true → prio b ≤ prio i
  | 0, b, h, i, hi, _ => by omega
  | k + 1, b, h, i, hi, hq => by
    unfold fst at h
    split at h
    · rename_i hc
      have e : k = b := by omega
      subst e
      by_cases e : i = k
      · rw [e]; omega
      · rcases hc.2 with h1 | h1
        · have := fst_none h1 i (by omega); rw [hq] at this; cases this
        · obtain ⟨c, hc2⟩ : ∃ c : Nat, fst q prio k = c := by
            have := fst_bd q prio k
            by_cases e2 : fst q prio k = -1
            · have := fst_none e2 i (by omega); rw [hq] at this; cases this
            · exact ⟨(fst q prio k).toNat, by omega⟩
          have := fst_least hc2 i (by omega) hq
          rw [hc2] at h1
          simp at h1
          omega
    · rename_i hc
      by_cases e : i = k
      · subst e
        have : ¬ prio i < prio (fst q prio i).toNat := fun h1 => hc ⟨hq, Or.inr h1⟩
        rw [h] at this
        simp at this
        exact this
      · exact fst_least h i (by omega) hq
/-- Who wants the slot, of numbers. -/
def wantB (nw : Nat) (f : Nat → Int) (i : Nat) : Bool := decide (∃ j, j < nw ∧ f j = i)
theorem wantB_zero (f : Nat → Int) : wantB 0 f = fun _ => false := by funext i; simp [wantB]
theorem wantB_succ (k : Nat) (f : Nat → Int) (i : Nat) (h : f k = i) : wantB (k + 1) f = fun j => if j = i then true else wantB k f j := by
  funext j
  unfold wantB
  by_cases e : j = i
  · subst e; rw [if_pos rfl]; exact decide_eq_true ⟨k, by omega, h⟩
  · rw [if_neg e]
    apply decide_eq_decide.2
    constructor
    · rintro ⟨x, hx, hf⟩
      by_cases e2 : x = k
      · subst e2; omega
      · exact ⟨x, by omega, hf⟩
    · rintro ⟨x, hx, hf⟩; exact ⟨x, by omega, hf⟩
def best (C : BC) (s : BS) (now : Int) (want : Nat → Bool) : Int := fst (fun i => want i && mayB C s.ws (s.who1 now) (s.row1 now) now i) C.prio C.n
/-- All who want it but one are stalled once more. -/
def stl (st : Nat → Int) (want : Nat → Bool) (b : Int) : Nat → Int := fun i => if want i = true ∧ (i : Int) ≠ b then st i + 1 else st i
/-- A slot that was asked for. -/
def SlotR (C : BC) (s : BS) (now : Int) (ok : Bool) (want : Nat → Bool) (v f : Int) (s' : BS) : Prop :=
  (¬ now < 4611686018427387904 ∧ v = 0 ∧ f = 2 ∧ s' = s) ∨ (now < 4611686018427387904 ∧ ¬ (ok = true ∧ s.next ≤ now) ∧ v = 0 ∧ f = 1 ∧ s' = s) ∨
  (now < 4611686018427387904 ∧ ok = true ∧ s.next ≤ now ∧ best C s now want = -1 ∧ v = 0 ∧ f = 5 ∧ s' = ⟨s.ws, stl s.st want (-1), now + 1, -1, 0⟩) ∨
  (now < 4611686018427387904 ∧ ok = true ∧ s.next ≤ now ∧ ∃ b : Nat, b < C.n ∧ best C s now want = b ∧ v = b ∧ f = 0 ∧ s' = ⟨upd s.ws b (s.ws b ++ [(C.K b now, 1)]), stl s.st want b, now + 1, b, (if s.who1 now = b then s.row1 now else 0) + 1⟩)
theorem slotR_ex (C : BC) (s : BS) (now : Int) (ok : Bool) (want : Nat → Bool) : ∃ v f s', SlotR C s now ok want v f s' := by
  by_cases h1 : now < 4611686018427387904
  · by_cases h2 : ok = true ∧ s.next ≤ now
    · have hb := fst_bd (fun i => want i && mayB C s.ws (s.who1 now) (s.row1 now) now i) C.prio C.n
      by_cases h3 : best C s now want = -1
      · exact ⟨_, _, _, Or.inr (Or.inr (Or.inl ⟨h1, h2.1, h2.2, h3, rfl, rfl, rfl⟩))⟩
      · unfold best at h3
        exact ⟨_, _, _, Or.inr (Or.inr (Or.inr ⟨h1, h2.1, h2.2, (best C s now want).toNat, by unfold best; omega, by unfold best; omega, rfl, rfl, rfl⟩))⟩
    · exact ⟨_, _, _, Or.inr (Or.inl ⟨h1, h2, rfl, rfl, rfl⟩)⟩
  · exact ⟨_, _, _, Or.inl ⟨h1, rfl, rfl, rfl⟩⟩
theorem who1_bd {C : BC} {s : BS} {k : Nat} (h : s.OK C k) (now : Int) : -1 ≤ s.who1 now ∧ s.who1 now < C.n := by
  have := h.who; unfold BS.who1; split <;> omega
theorem row1_bd {C : BC} {s : BS} {k : Nat} (h : s.OK C k) (now : Int) : 0 ≤ s.row1 now ∧ s.row1 now ≤ k := by
  have := h.row; unfold BS.row1; split <;> omega
theorem stl_bd {st : Nat → Int} {want : Nat → Bool} {b : Int} {k : Nat} {i : Nat} (h : 0 ≤ st i ∧ st i ≤ k) : 0 ≤ stl st want b i ∧ stl st want b i ≤ (k + 1 : Nat) := by
  unfold stl; split <;> omega
theorem SlotR.next {C : BC} {s s' : BS} {now v f : Int} {ok : Bool} {want : Nat → Bool} {k : Nat} (hR : SlotR C s now ok want v f s') (h : s.OK C k) : s'.OK C (k + 1) := by
  rcases hR with ⟨_, _, _, rfl⟩ | ⟨_, _, _, _, rfl⟩ | ⟨h1, h2, h3, h4, _, _, rfl⟩ | ⟨h1, h2, h3, b, hb, h4, _, _, rfl⟩
  · exact ⟨fun i hi => by have := h.st i hi; omega, h.next, h.who, by have := h.row; omega, h.nob, h.yes, fun i hi => by have := h.len i hi; omega⟩
  · exact ⟨fun i hi => by have := h.st i hi; omega, h.next, h.who, by have := h.row; omega, h.nob, h.yes, fun i hi => by have := h.len i hi; omega⟩
  · exact ⟨fun i hi => stl_bd (h.st i hi), ⟨by have := h.next; show C.ph ≤ now + 1; omega, by show now + 1 ≤ _; omega⟩, ⟨by show (-1:Int) ≤ -1; omega, by show (-1 : Int) < _; omega⟩, ⟨by show (0:Int) ≤ 0; omega, by show (0:Int) ≤ _; omega⟩, fun _ => rfl, fun h => by simp at h, fun i hi => by have := h.len i hi; show (s.ws i).length ≤ _; omega⟩
  · have hr := row1_bd h now
    refine ⟨fun i hi => stl_bd (h.st i hi), ⟨by have := h.next; show C.ph ≤ now + 1; omega, by show now + 1 ≤ _; omega⟩, ⟨by show (-1:Int) ≤ b; omega, by show (b : Int) < _; omega⟩, ⟨?_, ?_⟩, fun h => ?_, fun _ => ?_, fun i hi => ?_⟩
    · show 0 ≤ (if s.who1 now = b then s.row1 now else 0) + 1; split <;> omega
    · show (if s.who1 now = b then s.row1 now else 0) + 1 ≤ _; split <;> omega
    · have : (b : Int) = -1 := h
      omega
    · show 1 ≤ (if s.who1 now = b then s.row1 now else 0) + 1; split <;> omega
    · show (upd s.ws b (s.ws b ++ [(C.K b now, 1)]) i).length ≤ _
      have := h.len i hi
      unfold upd
      split
      · rename_i e; subst e; simp; omega
      · omega
end Go.Proofs.Ytabocojmobbpaaa
