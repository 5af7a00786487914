/- Layer 21: the document's words of a line. -/
import Derived.Test.YtlceanlenekanaaDoorCalM
namespace Go.Proofs.YtlceanlenekanaaDoor
open Go.RowKit
set_option linter.unusedVariables false
set_option maxRecDepth 100000
set_option maxHeartbeats 4000000
theorem byte_at (s : ByteArray) {pos : Nat} (h : pos < s.size) : wfold (tk s (pos + 1)) = wstep (wfold (tk s pos)) (s[pos]'h) := by
  have e : s.get! pos = s[pos]'h := get_bang s h
  rw [tk_add, bt_one s h, wfold_snoc, e]
theorem wstep_blank {st : List (List UInt8) × List UInt8} {b : UInt8} (h : isBr b.toNat = true) : wstep st b = (if st.2 = [] then st.1 else st.1 ++ [st.2], []) := if_pos (by rw [isBl_nat]; exact h)
theorem wstep_word {st : List (List UInt8) × List UInt8} {b : UInt8} (h : isBr b.toNat = false) : wstep st b = (st.1, st.2 ++ [b]) := if_neg (by rw [isBl_nat, h]; exact Bool.false_ne_true)
theorem stV_add (s : ByteArray) (l : List UInt8) {pos : Nat} (h : pos < s.size) : Value.string ((⟨l.toArray⟩ : ByteArray) ++ s.extract pos (pos + 1)) = stV (l ++ [s[pos]'h]) := by
  unfold stV
  congr 1
  apply WideShapes.bytes_inj
  have e : s.get! pos = s[pos]'h := get_bang s h
  have := bt_one s h
  unfold bt at this
  rw [ByteArray.data_append, Array.toList_append, ByteArray.data_extract, Array.toList_extract, List.extract_eq_take_drop, show pos + 1 - pos = 1 by omega, this, e]
end Go.Proofs.YtlceanlenekanaaDoor
