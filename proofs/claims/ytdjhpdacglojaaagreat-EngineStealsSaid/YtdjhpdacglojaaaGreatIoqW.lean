/- Layer 20: the first look of the laws. -/
import Derived.Test.YtdjhpdacglojaaaGreatIqS
import Derived.Laws.IdiomStrings
import Derived.Lib.SmallJoins
namespace Go.Proofs.YtdjhpdacglojaaaGreat
open Go.RowKit
set_option linter.unusedVariables false
set_option maxRecDepth 100000
set_option maxHeartbeats 4000000
section
variable {w0 w w' : World} {S0 : Nat → Prop} {X N : List Res} {a : Da} {n sz : Nat} {bp : Nat → Nat} {D : Dv} {k : Nat}
/-- A box behind a device. -/
theorem dv_box (s : St w0 S0 w (DvL a n sz bp D ++ X)) (t : TypeId) (cs : Array Value) : St w0 S0 (w.alloc (.cells cs t)) (DvL a n sz bp D ++ (X ++ [BlkR w.heap.size t cs])) := by
  rw [← List.append_assoc]; exact s.box t cs
theorem dv_blk (s : St w0 S0 w (DvL a n sz bp D ++ X)) (j : Nat) {g : Nat} {t : TypeId} {cs : Array Value} (hj : X[j]? = some (BlkR g t cs)) : Blk w g t cs := by
  refine s.blk (8 + j) ?_
  rw [List.getElem?_append_right (by simp [DvL])]
  simpa [DvL] using hj
theorem dv_lis (s : St w0 S0 w (DvL a n sz bp D ++ X)) (j : Nat) {e : TypeId} {z m : Nat} {v : Value} {xs : List Value} (hj : X[j]? = some (LisR e z v m xs)) : Lis w e z v m xs := by
  refine s.lis (8 + j) ?_
  rw [List.getElem?_append_right (by simp [DvL])]
  simpa [DvL] using hj
def r7 : Rq := ⟨7, 0, 100, 0, 0, 1, 2, 4, false, false, false, false⟩
def r8 : Rq := ⟨8, 0, 100, 0, 0, 1, 2, 4, false, false, false, false⟩
theorem newI {sz : Nat} {c : Int} (hs : 1 ≤ sz ∧ sz ≤ 64) (hc : newA c = 0) : DvI 5 sz 1 (Dv.new (stG 4) c) :=
  DvI.new (stG_ok 4) (by omega) hs hc fun i hi => by rw [(stG_len 4 i hi).2.2.1]; split <;> exact ⟨by omega, by omega⟩
end
end Go.Proofs.YtdjhpdacglojaaaGreat
