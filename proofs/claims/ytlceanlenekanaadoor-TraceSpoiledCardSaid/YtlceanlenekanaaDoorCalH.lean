/- Layer 21: the document's may a command be. -/
import Derived.Test.YtlceanlenekanaaDoorCalG
namespace Go.Proofs.YtlceanlenekanaaDoor
open Go.RowKit
set_option linter.unusedVariables false
set_option maxRecDepth 100000
set_option maxHeartbeats 4000000
theorem take_bad {xs : List Int} {i : Nat} {x : Int} (h : xs[i]? = some x) (hx : inN x = false) : (xs.take (i + 1)).all inN = false := by
  rw [List.take_add_one, h, List.all_append]
  simp [hx]
theorem take_off {xs : List Int} {i : Nat} (h : (xs.take i).all inN = false) : (xs.take (i + 1)).all inN = false := by
  rw [List.take_add_one, List.all_append, h]; rfl
end Go.Proofs.YtlceanlenekanaaDoor
