/- Layer 21: words as what they are: numbers, or texts. -/
import Derived.Test.YtlceanlenekanaaDoorCalJ
namespace Go.Proofs.YtlceanlenekanaaDoor
open Go.RowKit
set_option linter.unusedVariables false
set_option maxRecDepth 100000
set_option maxHeartbeats 4000000
theorem YtlceanlenekanaaDooriA : (Tryd.prog.info? 20).map (fun i => (i.zero, i.size, i.bytes)) = some (some .nilIface, 1, 16) := by kernel_rfl
/-- A word as what it is. -/
def anyB (l : List UInt8) : Value := if mayN l = true then .iface 3 (.int .i64 ((valB l : Nat) : Int)) else .iface 9 (stV l)
theorem anyB_yes {l : List UInt8} (h : mayN l = true) : anyB l = .iface 3 (.int .i64 ((valB l : Nat) : Int)) := if_pos h
theorem anyB_no {l : List UInt8} (h : mayN l = false) : anyB l = .iface 9 (stV l) := if_neg (by rw [h]; exact Bool.false_ne_true)
def anyVs (ws : List (List UInt8)) : List Value := ws.map anyB
theorem anyVs_snoc (ws : List (List UInt8)) (w : List UInt8) : anyVs (ws ++ [w]) = anyVs ws ++ [anyB w] := by unfold anyVs; rw [List.map_append]; rfl
theorem anyVs_len (ws : List (List UInt8)) : (anyVs ws).length = ws.length := List.length_map ..
theorem take_snoc {α : Type} {l : List α} {i : Nat} {x : α} (h : l[i]? = some x) : l.take (i + 1) = l.take i ++ [x] := by rw [List.take_add_one, h]; rfl
end Go.Proofs.YtlceanlenekanaaDoor
