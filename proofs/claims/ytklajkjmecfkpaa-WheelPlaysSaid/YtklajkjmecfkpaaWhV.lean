/- Layer 4: the document's own wheel: what is refused. -/
import Derived.Test.YtklajkjmecfkpaaWhT
namespace Go.Proofs.Ytklajkjmecfkpaa
open Go.RowKit
set_option linter.unusedVariables false
set_option maxRecDepth 100000
set_option maxHeartbeats 1000000
section
variable {w0 w w' : World} {S0 S : Nat → Prop} {L : List Res} {r : Nat} {now id at1 u : Int} {l : List (Int × Int)}
theorem rwSet_no (h : RWR r now l w S) {f : Int} (hf : setA now id at1 = f) (hne : f ≠ 0) :
    Calls Try.prog 11 #[.pointer (some ⟨r, 0, none⟩), .int .i64 id, .int .u64 at1] w fun e w' => e = .returned (.int .i64 f) ∧ Below w.heap.size w w' := by
  obtain ⟨A, c, hr⟩ := h
  have q1 := ((St.start hr).blk 0 rfl).two.2
  clear hr
  have HF : (f = 1 ∧ (id < 0 ∨ 1000 ≤ id ∨ at1 ≤ now)) ∨ (f = 2 ∧ ¬ (id < 0 ∨ 1000 ≤ id ∨ at1 ≤ now) ∧ 4611686018427387904 ≤ at1) := by
    unfold setA at hf
    split at hf
    · rename_i hh; exact Or.inl ⟨hf.symm, hh⟩
    · rename_i hh
      split at hf
      · exact absurd hf.symm hne
      · exact Or.inr ⟨hf.symm, hh, by omega⟩
  clear hf hne
  by_cases h0 : id < 0
  · obtain rfl : f = 1 := by omega
    have d0 : decide (id < 0) = true := decide_eq_true h0
    clear HF h0
    go_enter Try.func11, Try.ntmps11
    go_wp2_with fail
    go_ret
    exact ⟨rfl, Below.refl _ _⟩
  have d0 : decide (id < 0) = false := decide_eq_false h0
  by_cases h1 : 999 < id
  · obtain rfl : f = 1 := by omega
    have d1 : decide (999 < id) = true := decide_eq_true h1
    clear HF h0 h1
    go_enter Try.func11, Try.ntmps11
    go_wp2_with fail
    go_ret
    exact ⟨rfl, Below.refl _ _⟩
  have d1 : decide (999 < id) = false := decide_eq_false h1
  by_cases h2 : at1 ≤ now
  · obtain rfl : f = 1 := by omega
    have d2 : decide (at1 ≤ now) = true := decide_eq_true h2
    clear HF h0 h1 h2
    go_enter Try.func11, Try.ntmps11
    go_wp2_with fail
    go_ret
    exact ⟨rfl, Below.refl _ _⟩
  have d2 : decide (at1 ≤ now) = false := decide_eq_false h2
  obtain ⟨rfl, h3⟩ : f = 2 ∧ 4611686018427387904 ≤ at1 := by omega
  have d3 : decide (4611686018427387904 ≤ at1) = true := decide_eq_true h3
  clear HF h0 h1 h2 h3
  go_enter Try.func11, Try.ntmps11
  go_wp2_with fail
  go_ret
  exact ⟨rfl, Below.refl _ _⟩
theorem rwGo_no (h : RWR r now l w S) {f : Int} (hf : goA now u = f) (hne : f ≠ 0) :
    Calls Try.prog 15 #[.pointer (some ⟨r, 0, none⟩), .int .u64 u] w fun e w' => e = .returned (.tuple #[.slice none 0 0, .int .i64 f]) ∧ Below w.heap.size w w' := by
  obtain ⟨A, c, hr⟩ := h
  have q1 := ((St.start hr).blk 0 rfl).two.2
  clear hr
  unfold goA at hf
  by_cases h0 : u < 4611686018427387904
  · rw [if_pos h0] at hf
    by_cases h1 : u < now
    · rw [if_pos h1] at hf
      subst hf
      have d0 : decide (4611686018427387904 ≤ u) = false := decide_eq_false (by omega)
      have d1 : decide (u < now) = true := decide_eq_true h1
      clear h0 h1 hne
      go_enter Try.func15, Try.ntmps15
      go_wp2_with fail
      go_ret2
      exact ⟨rfl, Below.refl _ _⟩
    · rw [if_neg h1] at hf; exact absurd hf.symm hne
  · rw [if_neg h0] at hf
    subst hf
    have d0 : decide (4611686018427387904 ≤ u) = true := decide_eq_true (by omega)
    clear h0 hne
    go_enter Try.func15, Try.ntmps15
    go_wp2_with fail
    go_ret2
    exact ⟨rfl, Below.refl _ _⟩
end
end Go.Proofs.Ytklajkjmecfkpaa
