/- Layer 21: the table that the row lists, as the walks want it. -/
import Derived.Test.YtgajcjacnnpfcaaDoorCalT
import Derived.Test.YtgajcjacnnpfcaaDoorFrL
namespace Go.Proofs.YtgajcjacnnpfcaaDoor
open Go.RowKit
theorem tab_of {W : World} (h : laidMetH Tryd.prog Rows.callReadsRow.laid W) : TabB W.heap.size W := by
  rw [MakeChecks.laidMetH_plain _ _ _ (by kernel_rfl)] at h
  have h2 := laidMet.tail (laidMet.tail h)
  refine Lib.tabBelow_of_tabIs ?_
  exact Lib.tabIs_of_head (g := 0) (t := 71) (e := 61) (n := 20) (by kernel_rfl) (by kernel_rfl) Tryd.underlying71 Tryd.underlying61 (by kernel_rfl) (by kernel_rfl) h2
end Go.Proofs.YtgajcjacnnpfcaaDoor
