/- Layer 21: are commands the same? -/
import Derived.Test.YtlceanlenekanaaDoorCalI
namespace Go.Proofs.YtlceanlenekanaaDoor
open Go.RowKit
set_option linter.unusedVariables false
set_option maxRecDepth 100000
set_option maxHeartbeats 4000000
/-- The cells of a row of numbers. -/
def RdI (w : World) (A : Option Addr) (xs : List Int) : Prop := ∀ i x, xs[i]? = some x → ∃ g off, A = some ⟨g, off, none⟩ ∧ g < w.heap.size ∧ w.cell? ⟨g, off + i, none⟩ = some (.int .i64 x)
end Go.Proofs.YtlceanlenekanaaDoor
