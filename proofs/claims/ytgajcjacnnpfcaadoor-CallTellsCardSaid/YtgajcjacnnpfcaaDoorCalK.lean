/- Layer 21: words as what they are: numbers, or texts. -/
import Derived.Test.YtgajcjacnnpfcaaDoorCalJ
namespace Go.Proofs.YtgajcjacnnpfcaaDoor
open Go.RowKit
set_option linter.unusedVariables false
set_option maxRecDepth 100000
set_option maxHeartbeats 4000000
theorem YtgajcjacnnpfcaaDooriA : (Tryd.prog.info? 20).map (fun i => (i.zero, i.size, i.bytes)) = some (some .nilIface, 1, 16) := by kernel_rfl
/-- A word as what it is. -/
def anyB (l : List UInt8) : Value := if mayN l = true then .iface 3 (.int .i64 ((valB l : Nat) : Int)) else .iface 9 (stV l)
theorem anyB_yes {l : List UInt8} (h : mayN l = true) : anyB l = .iface 3 (.int .i64 ((valB l : Nat) : Int)) := if_pos h
theorem anyB_no {l : List UInt8} (h : mayN l = false) : anyB l = .iface 9 (stV l) := if_neg (by rw [h]; exact Bool.false_ne_true)
def anyVs (ws : List (List UInt8)) : List Value := ws.map anyB
theorem anyVs_snoc (ws : List (List UInt8)) (w : List UInt8) : anyVs (ws ++ [w]) = anyVs ws ++ [anyB w] := by unfold anyVs; rw [List.map_append]; rfl
theorem anyVs_len (ws : List (List UInt8)) : (anyVs ws).length = ws.length := List.length_map ..
theorem take_snoc {α : Type} {l : List α} {i : Nat} {x : α} (h : l[i]? = some x) : l.take (i + 1) = l.take i ++ [x] := by rw [List.take_add_one, h]; rfl
theorem values_o (A : Option Addr) (n c : Nat) (us : List (List UInt8)) (w : World) (hn : us.length = n) (hn2 : n ≤ 100000) (hA : RdT w A us) :
    Calls Tryd.prog 24 #[.slice A n c] w fun e w' => ∃ B c', e = .returned (.slice B n c') ∧ St w None w' [LisR 20 1 (.slice B n c') n (anyVs us)] := by
  obtain ⟨iA, hiA, hzA, hsA, hbA⟩ := info3c YtgajcjacnnpfcaaDooriA
  go_enter Tryd.func24, Tryd.ntmps24
  go_wp2
  go_loopw [3, 5, 6, 7, 10] (fun x3 _ _ _ x10 wr => ∃ (i c' : Nat) (B : Option Addr), i ≤ n ∧ x3 = .slice B i c' ∧ x10 = .int .i64 (i : Int) ∧ St w None wr [LisR 20 1 (.slice B i c') i (anyVs (us.take i))]) (fun _ _ _ _ x10 _ => n - (intOf x10).toNat)
  case atStart => exact ⟨0, 0, none, Nat.zero_le _, rfl, rfl, (St.begin w).lis_nil 20 1⟩
  case round =>
  obtain ⟨i, c', B, hi, rfl, rfl, hst⟩ := hrel
  by_cases hlt : i < n
  · have z1 : decide ((i : Int) < (n : Int)) = true := decide_eq_true (by omega)
    obtain ⟨u, hu⟩ : ∃ u, us[i]? = some u := ⟨us[i]'(by omega), List.getElem?_eq_getElem _⟩
    obtain ⟨g, o, rfl, l1, c1⟩ := hA i u hu
    rw [← hst.cell (p := ⟨g, o + i, none⟩) l1 (fun h => h)] at c1
    have hT := Lib.hid (take_snoc hu)
    have KN := Lib.hid (number_o ⟨u.toArray⟩ wr)
    have HS := Lib.hid hst
    clear hst hu
    cases hm : mayN u with
    | true =>
      have hv : numV (⟨u.toArray⟩ : ByteArray).data.toList = .tuple #[.int .i64 ((valB u : Nat) : Int), .bool true] := numV_yes hm
      rw [hv] at KN
      have HM := Lib.hid (anyB_yes hm)
      clear hm hv
      go_wp2_with (first | (go_at_call 11; refine KN.out.mono ?_; rintro e w2 ⟨rfl, hb2⟩; have S2 := HS.out.stay hb2; have RB := Lib.hid (rds_box w2 20 (.iface 3 (.int .i64 ((valB u : Nat) : Int)))); have S3 := S2.alloc (.cells #[.iface 3 (.int .i64 ((valB u : Nat) : Int))] 20); have HL := Lib.hid (S3.lis 0 rfl); replace S2 := Lib.hid S2; replace S3 := Lib.hid S3; clear hb2) | (at_builtin; refine wpList_lis rfl (.tmp 20) (.tmp 23) 43 rfl 20 iA .nilIface 1 16 Tryd.underlying43 hiA hzA hsA hbA rfl (by decide) _ _ _ rfl HL.out _ 1 1 [.iface 3 (.int .i64 ((valB u : Nat) : Int))] rfl RB.out (by simp [Value.oneCell']) (by unfold maxLen; omega) (by omega) ?_; intro B' c' w6 hl6 hg6 hat6; have S6 := Lib.hid (S3.out.lis_put 0 rfl hl6 hg6 hat6); clear hl6 hg6 hat6) | fail)
      go_roundw
      case rel => exact ⟨i + 1, c', B', by omega, rfl, by go_num, by rw [hT.out, anyVs_snoc, HM.out]; exact S6.out⟩
      case measure => simp [intOf]; omega
    | false =>
      have hv : numV (⟨u.toArray⟩ : ByteArray).data.toList = .tuple #[.int .i64 0, .bool false] := numV_no hm
      rw [hv] at KN
      have HM := Lib.hid (anyB_no hm)
      clear hm hv
      go_wp2_with (first | (go_at_call 11; refine KN.out.mono ?_; rintro e w2 ⟨rfl, hb2⟩; have S2 := HS.out.stay hb2; have RB := Lib.hid (rds_box w2 20 (.iface 9 (.string ⟨u.toArray⟩))); have S3 := S2.alloc (.cells #[.iface 9 (.string ⟨u.toArray⟩)] 20); have HL := Lib.hid (S3.lis 0 rfl); replace S2 := Lib.hid S2; replace S3 := Lib.hid S3; clear hb2) | (at_builtin; refine wpList_lis rfl (.tmp 25) (.tmp 28) 43 rfl 20 iA .nilIface 1 16 Tryd.underlying43 hiA hzA hsA hbA rfl (by decide) _ _ _ rfl HL.out _ 1 1 [.iface 9 (.string ⟨u.toArray⟩)] rfl RB.out (by simp [Value.oneCell']) (by unfold maxLen; omega) (by omega) ?_; intro B' c' w6 hl6 hg6 hat6; have S6 := Lib.hid (S3.out.lis_put 0 rfl hl6 hg6 hat6); clear hl6 hg6 hat6) | fail)
      go_roundw
      case rel => exact ⟨i + 1, c', B', by omega, rfl, by go_num, by rw [hT.out, anyVs_snoc, HM.out]; exact S6.out⟩
      case measure => simp [intOf]; omega
  obtain rfl : i = n := by omega
  have z1 : decide ((i : Int) < (i : Int)) = false := decide_eq_false (by omega)
  have e1 : us.take i = us := List.take_of_length_le (by omega)
  rw [e1] at hst
  go_wp2
  go_ret
  exact ⟨B, c', rfl, hst⟩
end Go.Proofs.YtgajcjacnnpfcaaDoor
