/- Layer 21: are rows of texts the same? -/
import Derived.Test.YtlceanlenekanaaDoorCalH
import Derived.Deep.RegionWith
import Derived.Deep.RegionHeld3
namespace Go.Proofs.YtlceanlenekanaaDoor
open Go.RowKit
set_option linter.unusedVariables false
set_option maxRecDepth 100000
set_option maxHeartbeats 4000000
/-- The cells of a row of strings. -/
def RdT (w : World) (A : Option Addr) (us : List (List UInt8)) : Prop := ∀ i u, us[i]? = some u → ∃ g off, A = some ⟨g, off, none⟩ ∧ g < w.heap.size ∧ w.cell? ⟨g, off + i, none⟩ = some (.string ⟨u.toArray⟩)
end Go.Proofs.YtlceanlenekanaaDoor
