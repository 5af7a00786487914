/- Layer 25: a text split into its parts. -/
import Derived.Test.YtlceanlenekanaaDoorTraK
namespace Go.Proofs.YtlceanlenekanaaDoor
open Go.RowKit
set_option linter.unusedVariables false
set_option maxRecDepth 100000
set_option maxHeartbeats 4000000
theorem cut_bytes (s : ByteArray) (b e : Nat) : (s.extract b e).data.toList = bt s b (e - b) := by
  show (s.extract b e).data.toList = List.take (e - b) (List.drop b s.data.toList)
  rw [ByteArray.data_extract, Array.toList_extract, List.extract_eq_take_drop]
theorem split_o (s : ByteArray) (w : World) (hs : s.size ≤ 100000) : Calls Tryd.prog 24 #[.string s] w fun e w' => ∃ r : Option (List It), SpO s.data.toList r ∧ ((r = none ∧ e = .returned (.tuple #[.slice none 0 0, .bool false]) ∧ St w None w' []) ∨ ∃ l B c, r = some l ∧ l.length ≤ s.size ∧ e = .returned (.tuple #[.slice B l.length c, .bool true]) ∧ St w None w' [LisR 20 1 (.slice B l.length c) l.length (itVs l)]) := by
  obtain ⟨iA, hiA, hzA, hsA, hbA⟩ := info3c YtlceanlenekanaaDooriA
  have hT0 := dot_bytes s
  have hTs := dot_size s
  have hTl := dot_last s
  have hTb := fun (p d : Nat) (h : p + d ≤ s.size) => dot_bt s h
  go_enter Tryd.func24, Tryd.ntmps24
  go_wp2
  obtain ⟨T, hT⟩ : ∃ T, s ++ (⟨#[46]⟩ : ByteArray) = T := ⟨_, rfl⟩
  rw [hT] at hT0 hTs hTl
  simp only [hT] at hTb ⊢
  have HT0 := Lib.hid hT0
  have HTl := Lib.hid hTl
  have HTb := Lib.hid hTb
  clear hT0 hTl hTb hT
  go_loopw [4, 5, 6, 7, 8, 9] (fun x4 x5 _ _ _ _ wr => ∃ (pos d c : Nat) (B : Option Addr) (its : List It), pos ≤ T.size ∧ SpI T pos d its ∧ x4 = .slice B its.length c ∧ x5 = .int .i64 (d : Int) ∧ St w None wr [LisR 20 1 (.slice B its.length c) its.length (itVs its), IterR w.heap.size T pos]) (fun _ _ _ _ _ _ wr => T.size - wr.iterPos w.heap.size)
  case atStart => exact ⟨0, 0, 0, none, [], Nat.zero_le _, SpI.zero (by omega), rfl, rfl, ((St.begin w).lis_nil 20 1).iter T 0⟩
  case round =>
  obtain ⟨pos, d, c, B, its, hps, hI, rfl, rfl, hst⟩ := hrel
  have hit := hst.iter_at 1 rfl
  have ps1 := hst.iter_pos 1 rfl
  have q1 := hI.h1
  have q2 := hI.h2
  by_cases hp : pos < T.size
  · obtain ⟨r, hr⟩ : ∃ r, (Utf8.decode T pos).1 = r := ⟨_, rfl⟩
    obtain ⟨dd, hd⟩ : ∃ dd, (Utf8.decode T pos).2 = dd := ⟨_, rfl⟩
    have hnx : ∀ ty, (Instr.next (.pointer (some ⟨w.heap.size, 0, none⟩)) true ty).run Tryd.prog wr = .ok (.tuple #[.bool true, .int .i64 pos, .int .i32 r]) (wr.iterAt w.heap.size T (pos + dd)) := fun ty => by
      rw [← hr, ← hd]; exact Lib.run_next_any_at wr _ T pos ty hit hp
    have st2 := hst.iter_step 1 rfl (pos + dd)
    have ps2 := st2.iter_pos 1 rfl
    by_cases hdig : 48 ≤ r ∧ r ≤ 57
    · have z1 : decide ((48 : Int) ≤ (r : Int)) = true := decide_eq_true (by omega)
      have z2 : decide ((r : Int) ≤ 57) = true := decide_eq_true (by omega)
      obtain ⟨e1, hI2⟩ := hI.digit HTl.out hp (by omega) (by omega)
      rw [hd] at e1
      subst e1
      have HI2 := Lib.hid hI2
      clear hI hI2
      go_wp2
      go_roundw
      case rel => exact ⟨pos + 1, d + 1, c, B, its, by omega, HI2.out, rfl, by go_num, st2⟩
      case measure => rw [ps1, ps2]; omega
    · have dz : (decide ((48 : Int) ≤ (r : Int)) = true ∧ decide ((r : Int) ≤ 57) = false) ∨ decide ((48 : Int) ≤ (r : Int)) = false := by
        by_cases h48 : 48 ≤ r
        · exact Or.inl ⟨decide_eq_true (by omega), decide_eq_false (by omega)⟩
        · exact Or.inr (decide_eq_false (by omega))
      have hrr : r < 48 ∨ 57 < r := by omega
      by_cases hd0 : d = 0
      · subst hd0
        obtain ⟨f1, f2, hI2⟩ := hI.mark HTl.out hp (by rw [hr]; exact hrr) (its' := its) (by rw [bt_nil]; rfl)
        rw [hd] at f1 f2 hI2
        rw [hr] at hI2
        have HI2 := Lib.hid hI2
        have S5 := Lib.hid (st2.alloc (.cells #[.iface 70 (.int .i32 r)] 20))
        have HL := Lib.hid (S5.out.lis 0 rfl)
        have RB := Lib.hid (rds_box (wr.iterAt w.heap.size T (pos + dd)) 20 (.iface 70 (.int .i32 r)))
        clear hI hI2 st2 hst
        rcases dz with ⟨z1, z2⟩ | z1 <;> (
          go_wp2_with (first | (at_builtin; refine wpList_lis rfl (.tmp 44) (.tmp 47) 44 rfl 20 iA .nilIface 1 16 Tryd.underlying44 hiA hzA hsA hbA rfl (by decide) _ _ _ rfl HL.out _ 1 1 [.iface 70 (.int .i32 r)] rfl RB.out (by simp [Value.oneCell']) (by unfold maxLen; omega) (by omega) ?_; intro B' c' w6 hl6 hg6 hat6; have S6 := Lib.hid (S5.out.lis_put 0 rfl hl6 hg6 hat6); clear hl6 hg6 hat6) | fail)
          go_roundw
          case rel => exact ⟨pos + dd, 0, c', B', its ++ [.m r], f2, HI2.out, by rw [List.length_append]; rfl, rfl, by rw [List.length_append, itVs_app]; exact S6.out⟩
          case measure => rw [ps1, S6.out.iter_pos 1 rfl]; omega)
      · have hdp : 0 < d := Nat.pos_of_ne_zero hd0
        have z3 : decide ((0 : Int) < (d : Int)) = true := decide_eq_true (by omega)
        have hcb := cut_bytes s (pos - d) pos
        rw [show pos - (pos - d) = d by omega, ← HTb.out (pos - d) d (by omega)] at hcb
        have hne : bt T (pos - d) d ≠ [] := fun h => by
          have := bt_len T (pos := pos - d) (d := d) (by omega)
          rw [h] at this
          have : 0 = d := this
          omega
        have hsl : ∀ W : World, (Instr.slice 9 (.string s) (some (.int .i64 ((pos : Int) - (d : Int)))) (some (.int .i64 (pos : Int))) none).run Tryd.prog W = .ok (.string (s.extract (pos - d) pos)) W := fun W => by
          have := run_slice_string (P := Tryd.prog) (w := W) 9 s .i64 .i64 ((pos : Int) - (d : Int)) (pos : Int) Tryd.underlying9 (by omega) (by omega) (by omega)
          rw [this, show ((pos : Int) - (d : Int)).toNat = pos - d by omega, show (pos : Int).toNat = pos by omega]
        have KN := number_o (s.extract (pos - d) pos) (wr.iterAt w.heap.size T (pos + dd))
        rw [hcb] at KN
        cases hm : mayN (bt T (pos - d) d) with
        | true =>
          rw [numV_yes hm] at KN
          replace KN := Lib.hid KN
          obtain ⟨V, hV⟩ : ∃ V : Nat, valB (bt T (pos - d) d) = V := ⟨_, rfl⟩
          obtain ⟨f1, f2, hI2⟩ := hI.mark HTl.out hp (by rw [hr]; exact hrr) (its' := its ++ [.n (valB (bt T (pos - d) d) : Nat)]) (by unfold flush; rw [if_neg hne, if_pos hm])
          rw [hd] at f1 f2 hI2
          rw [hr, hV] at hI2
          rw [hV] at KN
          have HI2 := Lib.hid hI2
          have HS := Lib.hid st2
          clear hI hI2 hst hcb hne hm hV st2
          rcases dz with ⟨z1, z2⟩ | z1 <;> (
            go_wp2_with (first | (go_at_call 35; refine KN.out.mono ?_; rintro e w2 ⟨rfl, hb2⟩; have S2 := HS.out.stay hb2; have RB := Lib.hid (rds_box w2 20 (.iface 3 (.int .i64 ((V : Nat) : Int)))); have S3 := Lib.hid (S2.alloc (.cells #[.iface 3 (.int .i64 ((V : Nat) : Int))] 20)); have HL := Lib.hid (S3.out.lis 0 rfl); replace S2 := Lib.hid S2; clear hb2) | (at_builtin; refine wpList_lis rfl (.tmp 39) (.tmp 42) 44 rfl 20 iA .nilIface 1 16 Tryd.underlying44 hiA hzA hsA hbA rfl (by decide) _ _ _ rfl HL.out _ 1 1 [.iface 3 (.int .i64 ((V : Nat) : Int))] rfl RB.out (by simp [Value.oneCell']) (by unfold maxLen; omega) (by omega) ?_; intro B' c' w6 hl6 hg6 hat6; have S6 := Lib.hid (S3.out.lis_put 0 rfl hl6 hg6 hat6); clear hl6 hg6 hat6; have S7 := Lib.hid (S6.out.alloc (.cells #[.iface 70 (.int .i32 r)] 20)); have HL7 := Lib.hid (S7.out.lis 0 rfl); have RB7 := Lib.hid (rds_box w6 20 (.iface 70 (.int .i32 r)))) | (at_builtin; refine wpList_lis rfl (.tmp 44) (.tmp 47) 44 rfl 20 iA .nilIface 1 16 Tryd.underlying44 hiA hzA hsA hbA rfl (by decide) _ _ _ rfl HL7.out _ 1 1 [.iface 70 (.int .i32 r)] rfl RB7.out (by simp [Value.oneCell']) (by unfold maxLen; omega) (by omega) ?_; intro B8 c8 w8 hl8 hg8 hat8; have S8 := Lib.hid (S7.out.lis_put 0 rfl hl8 hg8 hat8); clear hl8 hg8 hat8) | fail)
            go_roundw
            case rel => exact ⟨pos + dd, 0, c8, B8, (its ++ [.n V]) ++ [.m r], f2, HI2.out, by rw [List.length_append, List.length_append]; rfl, rfl, by rw [List.length_append, List.length_append, itVs_app, itVs_app]; exact S8.out⟩
            case measure => rw [ps1, S8.out.iter_pos 1 rfl]; omega)
        | false =>
          rw [numV_no hm] at KN
          replace KN := Lib.hid KN
          have HF := Lib.hid (hI.fail HT0.out hp (by rw [hr]; exact hrr) (by unfold flush; rw [if_neg hne, if_neg (by rw [hm]; exact Bool.false_ne_true)]))
          have HS := Lib.hid st2
          clear hI hst hcb hne hm st2
          rcases dz with ⟨z1, z2⟩ | z1 <;> (
            go_wp2_with (first | (go_at_call 35; refine KN.out.mono ?_; rintro e w2 ⟨rfl, hb2⟩; have S2 := Lib.hid (HS.out.stay hb2); clear hb2) | fail)
            go_ret2
            exact ⟨none, HF.out, Or.inl ⟨rfl, rfl, S2.out.take 0⟩⟩)
  · obtain rfl : pos = T.size := by omega
    have hnx : ∀ ty, (Instr.next (.pointer (some ⟨w.heap.size, 0, none⟩)) true ty).run Tryd.prog wr = _ := fun ty => Lib.run_next_end_at wr _ T T.size ty hit hp
    obtain ⟨l, rfl, hO⟩ := hI.done HT0.out
    rw [List.length_append] at hst q2
    have q2 : l.length + 1 + d ≤ T.size := q2
    obtain ⟨A', cap, e, h1, h2, -⟩ := hst.lis_cells 0 rfl
    injection e with e1 e2 e3
    subst e1; subst e3
    have h2 : c ≤ 9223372036854775807 := h2
    have h1 : l.length + 1 ≤ c := h1
    have hl0 := hst.lis 0 rfl
    have S3 := hst.lis_as 0 rfl (hl0.upto (k := l.length) (Nat.le_succ _)) (fun g h => (h : (Value.slice B l.length c).ownBlock = some g) ▸ (by cases B <;> simp_all [Value.ownBlock]))
    have e4 : (itVs (l ++ [It.m 46])).take (l.length * 1) = itVs l := by rw [itVs_app, Nat.mul_one, List.take_left' (itVs_len l)]
    rw [e4] at S3
    have S4 := Lib.hid (S3.take 1)
    have HO := Lib.hid hO
    have e5 : (l ++ [It.m 46]).length = l.length + 1 := by rw [List.length_append]; rfl
    rw [e5]
    clear hI hst hl0 S3 e4 hO
    go_wp2
    go_ret2
    exact ⟨some l, HO.out, Or.inr ⟨l, rfl, by omega, B, c, rfl, S4.out⟩⟩
end Go.Proofs.YtlceanlenekanaaDoor
