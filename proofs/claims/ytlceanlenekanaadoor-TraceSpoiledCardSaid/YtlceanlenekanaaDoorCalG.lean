/- Layer 21: may a command be? -/
import Derived.Test.YtlceanlenekanaaDoorCalE
import Derived.Test.YtlceanlenekanaaDoorCalF
namespace Go.Proofs.YtlceanlenekanaaDoor
open Go.RowKit
set_option linter.unusedVariables false
set_option maxRecDepth 100000
set_option maxHeartbeats 4000000
/-- Numbers as a row of cells. -/
def ivI (xs : List Int) : List Value := xs.map fun x => .int .i64 x
def inN (x : Int) : Bool := decide (0 ≤ x ∧ x ≤ 2147483647)
theorem mayC_alt (n : List UInt8) (xs : List Int) : mayC n xs = (xs.all inN && decide (nm n = some xs.length)) := rfl
theorem all_none {xs : List Int} {i : Nat} {x : Int} (h : xs[i]? = some x) (hx : inN x = false) : xs.all inN = false := by
  rw [Bool.eq_false_iff]
  intro ha
  have := List.all_eq_true.1 ha x (List.mem_of_getElem? h)
  rw [hx] at this
  exact absurd this (by decide)
theorem all_more {xs : List Int} {i : Nat} {x : Int} (h : xs[i]? = some x) (hx : inN x = true) (ha : (xs.take i).all inN = true) : (xs.take (i + 1)).all inN = true := by
  rw [List.take_add_one, h, List.all_append, ha]
  simp [hx]
end Go.Proofs.YtlceanlenekanaaDoor
