/- Layer 21: the document's words of a line. -/
import Derived.Test.YtgajcjacnnpfcaaDoorCalM
namespace Go.Proofs.YtgajcjacnnpfcaaDoor
open Go.RowKit
set_option linter.unusedVariables false
set_option maxRecDepth 100000
set_option maxHeartbeats 4000000
theorem byte_at (s : ByteArray) {pos : Nat} (h : pos < s.size) : wfold (tk s (pos + 1)) = wstep (wfold (tk s pos)) (s[pos]'h) := by
  have e : s.get! pos = s[pos]'h := get_bang s h
  rw [tk_add, bt_one s h, wfold_snoc, e]
theorem wstep_blank {st : List (List UInt8) × List UInt8} {b : UInt8} (h : isBr b.toNat = true) : wstep st b = (if st.2 = [] then st.1 else st.1 ++ [st.2], []) := if_pos (by rw [isBl_nat]; exact h)
theorem wstep_word {st : List (List UInt8) × List UInt8} {b : UInt8} (h : isBr b.toNat = false) : wstep st b = (st.1, st.2 ++ [b]) := if_neg (by rw [isBl_nat, h]; exact Bool.false_ne_true)
theorem stV_add (s : ByteArray) (l : List UInt8) {pos : Nat} (h : pos < s.size) : Value.string ((⟨l.toArray⟩ : ByteArray) ++ s.extract pos (pos + 1)) = stV (l ++ [s[pos]'h]) := by
  unfold stV
  congr 1
  apply WideShapes.bytes_inj
  have e : s.get! pos = s[pos]'h := get_bang s h
  have := bt_one s h
  unfold bt at this
  rw [ByteArray.data_append, Array.toList_append, ByteArray.data_extract, Array.toList_extract, List.extract_eq_take_drop, show pos + 1 - pos = 1 by omega, this, e]
theorem rwords_o (s : ByteArray) (w : World) (hs : s.size ≤ 100000) : Calls Tryd.prog 17 #[.string s] w fun e w' => ∃ B c, e = .returned (.slice B (wordsB s.data.toList).length c) ∧ St w None w' [LisR 9 1 (.slice B (wordsB s.data.toList).length c) (wordsB s.data.toList).length (stVs (wordsB s.data.toList))] := by
  obtain ⟨iS, hiS, hzS, hsS, hbS⟩ := info3c YtgajcjacnnpfcaaDooriS
  go_enter Tryd.func17, Tryd.ntmps17
  go_wp2
  go_loopw [3, 4, 5, 6] (fun x3 x4 x5 _ wr => ∃ (pos c : Nat) (B : Option Addr) (ws : List (List UInt8)) (t : List UInt8), pos ≤ s.size ∧ wfold (tk s pos) = (ws, t) ∧ x3 = .slice B ws.length c ∧ x4 = .string ⟨t.toArray⟩ ∧ x5 = .int .i64 (pos : Int) ∧ St w None wr [LisR 9 1 (.slice B ws.length c) ws.length (stVs ws)]) (fun _ _ x5 _ _ => s.size - (intOf x5).toNat)
  case atStart => exact ⟨0, 0, none, [], [], Nat.zero_le _, rfl, rfl, rfl, rfl, (St.begin w).lis_nil 9 1⟩
  case round =>
  obtain ⟨pos, c, B, ws, t, hps, hwf, rfl, rfl, rfl, hst⟩ := hrel
  have hwc := wcount s hps
  rw [hwf] at hwc
  have hwc : ws.length + t.length ≤ pos := hwc
  have HW := Lib.hid hwf
  clear hwf
  by_cases hp : pos < s.size
  · have z0 : decide ((pos : Int) < (s.size : Int)) = true := decide_eq_true (by omega)
    have HF := Lib.hid (byte_at s hp)
    cases hb : isBr (s[pos]'hp).toNat with
    | true =>
      have hw2 := wstep_blank (st := wfold (tk s pos)) hb
      rw [HW.out] at hw2
      have hdd := of_decide_eq_true hb
      have dd : (((s[pos]'hp).toNat : Int) == 32) = true ∨ ((((s[pos]'hp).toNat : Int) == 32) = false ∧ (((s[pos]'hp).toNat : Int) == 9) = true) ∨ ((((s[pos]'hp).toNat : Int) == 32) = false ∧ (((s[pos]'hp).toNat : Int) == 9) = false ∧ (((s[pos]'hp).toNat : Int) == 10) = true) ∨ ((((s[pos]'hp).toNat : Int) == 32) = false ∧ (((s[pos]'hp).toNat : Int) == 9) = false ∧ (((s[pos]'hp).toNat : Int) == 10) = false ∧ (((s[pos]'hp).toNat : Int) == 13) = true) := by
        rcases hdd with h | h | h | h
        · exact Or.inl (by rw [h]; rfl)
        · exact Or.inr (Or.inl (by rw [h]; exact ⟨rfl, rfl⟩))
        · exact Or.inr (Or.inr (Or.inl (by rw [h]; exact ⟨rfl, rfl, rfl⟩)))
        · exact Or.inr (Or.inr (Or.inr (by rw [h]; exact ⟨rfl, rfl, rfl, rfl⟩)))
      have H2 := Lib.hid hw2
      clear hb hdd hw2
      cases t with
      | nil =>
        rcases dd with d1 | ⟨d1, d2⟩ | ⟨d1, d2, d3⟩ | ⟨d1, d2, d3, d4⟩ <;> (
          go_wp2
          go_roundw
          case rel => exact ⟨pos + 1, c, B, ws, [], by omega, by rw [HF.out, HW.out, H2.out]; rfl, rfl, rfl, by go_num, hst⟩
          case measure => simp [intOf]; omega)
      | cons b0 t0 =>
        have rb := rds_box wr 9 (.string ⟨(b0 :: t0).toArray⟩)
        have s5 := hst.alloc (.cells #[.string ⟨(b0 :: t0).toArray⟩] 9)
        have HL := Lib.hid (s5.lis 0 rfl)
        have RB := Lib.hid rb
        have S5 := Lib.hid s5
        clear rb s5 hst
        rcases dd with d1 | ⟨d1, d2⟩ | ⟨d1, d2, d3⟩ | ⟨d1, d2, d3, d4⟩ <;> (
          go_wp2_with (first | (at_builtin; refine wpList_lis rfl (.tmp 32) (.tmp 34) 32 rfl 9 iS (.string ⟨#[]⟩) 1 16 Tryd.underlying32 hiS hzS hsS hbS rfl (by decide) _ _ _ rfl HL.out _ 1 1 [.string ⟨(b0 :: t0).toArray⟩] rfl RB.out (by simp [Value.oneCell']) (by unfold maxLen; omega) (by omega) ?_; intro B' c' w6 hl6 hg6 hat6; have S6 := Lib.hid (S5.out.lis_put 0 rfl hl6 hg6 hat6); clear hl6 hg6 hat6) | fail)
          go_roundw
          case rel => exact ⟨pos + 1, c', B', ws ++ [b0 :: t0], [], by omega, by rw [HF.out, HW.out, H2.out]; rfl, by rw [List.length_append]; rfl, rfl, by go_num, by rw [List.length_append, stVs_snoc]; exact S6.out⟩
          case measure => simp [intOf]; omega)
    | false =>
      have hw2 := wstep_word (st := wfold (tk s pos)) hb
      rw [HW.out] at hw2
      have hdd := of_decide_eq_false hb
      have d1 : (((s[pos]'hp).toNat : Int) == 32) = false := beq_eq_false_iff_ne.2 (by omega)
      have d2 : (((s[pos]'hp).toNat : Int) == 9) = false := beq_eq_false_iff_ne.2 (by omega)
      have d3 : (((s[pos]'hp).toNat : Int) == 10) = false := beq_eq_false_iff_ne.2 (by omega)
      have d4 : (((s[pos]'hp).toNat : Int) == 13) = false := beq_eq_false_iff_ne.2 (by omega)
      have H2 := Lib.hid hw2
      have HA := Lib.hid (stV_add s t hp)
      have hsl : ∀ W : World, (Instr.slice 9 (.string s) (some (.int .i64 (pos : Int))) (some (.int .i64 ((pos : Int) + 1))) none).run Tryd.prog W = .ok (.string (s.extract pos (pos + 1))) W := fun W => by
        have := run_slice_string (P := Tryd.prog) (w := W) 9 s .i64 .i64 (pos : Int) ((pos : Int) + 1) Tryd.underlying9 (by omega) (by omega) (by omega)
        rw [this, show ((pos : Int) + 1).toNat = pos + 1 by omega, show (pos : Int).toNat = pos by omega]
      clear hb hdd hw2
      go_wp2
      go_roundw
      case rel => exact ⟨pos + 1, c, B, ws, t ++ [s[pos]'hp], by omega, by rw [HF.out, HW.out, H2.out], rfl, HA.out, by go_num, hst⟩
      case measure => simp [intOf]; omega
  · obtain rfl : pos = s.size := by omega
    have z0 : decide ((s.size : Int) < (s.size : Int)) = false := decide_eq_false (by omega)
    have e0 := HW.out
    rw [tk_size] at e0
    cases t with
    | nil =>
      have q3 : wordsB s.data.toList = ws := by rw [wfin, e0]; rfl
      have Q3 := Lib.hid q3
      clear q3 e0
      go_wp2
      go_ret
      exact ⟨B, c, by rw [Q3.out]; rfl, by rw [Q3.out]; exact hst⟩
    | cons b0 t0 =>
      have q3 : wordsB s.data.toList = ws ++ [b0 :: t0] := by rw [wfin, e0]; rfl
      have Q3 := Lib.hid q3
      have rb := rds_box wr 9 (.string ⟨(b0 :: t0).toArray⟩)
      have s5 := hst.alloc (.cells #[.string ⟨(b0 :: t0).toArray⟩] 9)
      have HL := Lib.hid (s5.lis 0 rfl)
      have RB := Lib.hid rb
      have S5 := Lib.hid s5
      clear rb s5 hst q3 e0
      go_wp2_with (first | (at_builtin; refine wpList_lis rfl (.tmp 45) (.tmp 47) 32 rfl 9 iS (.string ⟨#[]⟩) 1 16 Tryd.underlying32 hiS hzS hsS hbS rfl (by decide) _ _ _ rfl HL.out _ 1 1 [.string ⟨(b0 :: t0).toArray⟩] rfl RB.out (by simp [Value.oneCell']) (by unfold maxLen; omega) (by omega) ?_; intro B' c' w6 hl6 hg6 hat6; have S6 := Lib.hid (S5.out.lis_put 0 rfl hl6 hg6 hat6); clear hl6 hg6 hat6) | fail)
      go_ret
      exact ⟨B', c', by rw [Q3.out, List.length_append]; rfl, by rw [Q3.out, List.length_append, stVs_snoc]; exact S6.out⟩
end Go.Proofs.YtgajcjacnnpfcaaDoor
