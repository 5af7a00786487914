/- Layer 21: a line's words. -/
import Derived.Test.YtlceanlenekanaaDoorCalD
import Derived.WalkMore
import Derived.BigQuiet
namespace Go.Proofs.YtlceanlenekanaaDoor
open Go.RowKit
set_option linter.unusedVariables false
set_option maxRecDepth 100000
set_option maxHeartbeats 4000000
theorem info3c {P : Program} {e : TypeId} {z : Value} {m b : Nat} (h : (P.info? e).map (fun i => (i.zero, i.size, i.bytes)) = some (some z, m, b)) : ∃ i, P.info? e = some i ∧ i.zero = some z ∧ i.size = m ∧ i.bytes = b := by
  cases hi : P.info? e with
  | none => rw [hi] at h; cases h
  | some i => rw [hi] at h; simp at h; exact ⟨i, rfl, h.1, h.2.1, h.2.2⟩
theorem YtlceanlenekanaaDooriS : (Tryd.prog.info? 9).map (fun i => (i.zero, i.size, i.bytes)) = some (some (.string ⟨#[]⟩), 1, 16) := by kernel_rfl
/-- A row of bytes as a string's value; rows of them. -/
def stV (l : List UInt8) : Value := .string ⟨l.toArray⟩
def stVs (ws : List (List UInt8)) : List Value := ws.map stV
theorem stV_cut (s : ByteArray) {b e : Nat} (h : b ≤ e) (he : e ≤ s.size) : Value.string (s.extract b e) = stV (bt s b (e - b)) := by
  unfold stV bt
  congr 1
  apply WideShapes.bytes_inj
  show (s.extract b e).data.toList = List.take (e - b) (List.drop b s.data.toList)
  rw [ByteArray.data_extract, Array.toList_extract, List.extract_eq_take_drop]
theorem stVs_snoc (ws : List (List UInt8)) (w : List UInt8) : stVs (ws ++ [w]) = stVs ws ++ [stV w] := by unfold stVs; rw [List.map_append]; rfl
theorem stVs_len (ws : List (List UInt8)) : (stVs ws).length = ws.length := List.length_map ..
/-- There are no more words than bytes. -/
theorem wfold_count : ∀ (k : Nat) (l : List UInt8), l.length = k → (wfold l).1.length + (wfold l).2.length ≤ k := by
  intro k
  induction k with
  | zero => intro l h; obtain rfl := List.length_eq_zero_iff.1 h; exact Nat.le_refl _
  | succ k ih =>
    intro l h
    rcases List.eq_nil_or_concat l with rfl | ⟨m, b, rfl⟩
    · cases h
    rw [List.concat_eq_append] at h ⊢
    have := ih m (by simpa using h)
    rw [wfold_snoc]
    unfold wstep
    by_cases hb : isBl b = true
    · rw [if_pos hb]
      by_cases he : (wfold m).2 = []
      · rw [if_pos he]
        show (wfold m).1.length + 0 ≤ _
        omega
      · rw [if_neg he]
        have := List.length_pos_iff.2 he
        show ((wfold m).1 ++ [(wfold m).2]).length + 0 ≤ _
        rw [List.length_append]
        show (wfold m).1.length + 1 + 0 ≤ _
        omega
    · rw [if_neg hb]
      show (wfold m).1.length + ((wfold m).2 ++ [b]).length ≤ _
      rw [List.length_append]
      show (wfold m).1.length + ((wfold m).2.length + 1) ≤ _
      omega
theorem wcount (s : ByteArray) {pos : Nat} (h : pos ≤ s.size) : (wfold (tk s pos)).1.length + (wfold (tk s pos)).2.length ≤ pos := wfold_count pos _ (tk_len s h)
theorem wfin (l : List UInt8) : wordsB l = if (wfold l).2 = [] then (wfold l).1 else (wfold l).1 ++ [(wfold l).2] := rfl
theorem words_o (s : ByteArray) (w : World) (hs : s.size ≤ 100000) : Calls Tryd.prog 29 #[.string s] w fun e w' => ∃ B c, e = .returned (.slice B (wordsB s.data.toList).length c) ∧ St w None w' [LisR 9 1 (.slice B (wordsB s.data.toList).length c) (wordsB s.data.toList).length (stVs (wordsB s.data.toList))] := by
  obtain ⟨iS, hiS, hzS, hsS, hbS⟩ := info3c YtlceanlenekanaaDooriS
  go_enter Tryd.func29, Tryd.ntmps29
  go_wp2
  go_loopw [3, 4, 5, 6] (fun x3 x4 _ _ wr => ∃ (pos c : Nat) (B : Option Addr), pos ≤ s.size ∧ x3 = .slice B (wfold (tk s pos)).1.length c ∧ x4 = .int .i64 ((wbeg s pos : Nat) : Int) ∧ St w None wr [LisR 9 1 (.slice B (wfold (tk s pos)).1.length c) (wfold (tk s pos)).1.length (stVs (wfold (tk s pos)).1), IterR w.heap.size s pos]) (fun _ _ _ _ wr => s.size - wr.iterPos w.heap.size)
  case atStart => exact ⟨0, 0, none, Nat.zero_le _, rfl, rfl, by
    have := ((St.begin w).lis_nil 9 1).iter s 0
    exact this⟩
  case round =>
  obtain ⟨pos, c, B, hps, rfl, rfl, hst⟩ := hrel
  have hit := hst.iter_at 1 rfl
  have ps1 := hst.iter_pos 1 rfl
  have hwc := wcount s hps
  have hwb := wbeg_le s pos
  by_cases hp : pos < s.size
  · obtain ⟨r, hr⟩ : ∃ r, (Utf8.decode s pos).1 = r := ⟨_, rfl⟩
    obtain ⟨d, hd⟩ : ∃ d, (Utf8.decode s pos).2 = d := ⟨_, rfl⟩
    have hnx : ∀ ty, (Instr.next (.pointer (some ⟨w.heap.size, 0, none⟩)) true ty).run Tryd.prog wr = .ok (.tuple #[.bool true, .int .i64 pos, .int .i32 r]) (wr.iterAt w.heap.size s (pos + d)) := fun ty => by
      rw [← hr, ← hd]; exact Lib.run_next_any_at wr _ s pos ty hit hp
    have st2 := hst.iter_step 1 rfl (pos + d)
    have ps2 := st2.iter_pos 1 rfl
    have KB := Lib.hid (blank_o r (wr.iterAt w.heap.size s (pos + d)))
    by_cases hb : isBr r = true
    · rw [hb] at KB
      obtain ⟨d1, q1⟩ := step_blank s hp (by rw [hr]; exact hb)
      have q2 := wbeg_blank s hp (by rw [hr]; exact hb)
      rw [hd] at d1
      subst d1
      by_cases hl : (wbeg s pos : Int) < (pos : Int)
      · have z : decide ((wbeg s pos : Int) < (pos : Int)) = true := decide_eq_true hl
        have hne := (wbeg_some s hps).1 (by omega)
        have hw1 := List.length_pos_iff.2 hne
        have q3 : wordsB (tk s pos) = (wfold (tk s pos)).1 ++ [(wfold (tk s pos)).2] := by rw [wfin, if_neg hne]
        have HX := stV_cut s (b := wbeg s pos) (e := pos) hwb hps
        rw [← wbeg_word s hps] at HX
        replace HX := Lib.hid HX
        have rb := rds_box (wr.iterAt w.heap.size s (pos + 1)) 9 (.string (s.extract (wbeg s pos) pos))
        have s5 := st2.alloc (.cells #[.string (s.extract (wbeg s pos) pos)] 9)
        have HL := Lib.hid (s5.lis 0 rfl)
        have RB := Lib.hid rb
        have S5 := Lib.hid s5
        have Q1 := Lib.hid q1
        have Q2 := Lib.hid q2
        have Q3 := Lib.hid q3
        clear rb s5 st2 q1 q2 q3 hne hw1
        go_wp2_with (first | (go_at_call 39; refine KB.out.mono ?_; rintro e w2 ⟨rfl, rfl⟩) | (at_builtin; refine wpList_lis rfl (.tmp 19) (.tmp 24) 59 rfl 9 iS (.string ⟨#[]⟩) 1 16 Tryd.underlying59 hiS hzS hsS hbS rfl (by decide) _ _ _ rfl HL.out _ 1 1 [.string (s.extract (wbeg s pos) pos)] rfl RB.out (by simp [Value.oneCell']) (by unfold maxLen; omega) (by omega) ?_; intro B' c' w6 hl6 hg6 hat6; have S6 := Lib.hid (S5.out.lis_put 0 rfl hl6 hg6 hat6); clear hl6 hg6 hat6) | fail)
        go_roundw
        case rel => exact ⟨pos + 1, c', B', by omega, by rw [Q1.out, Q3.out, List.length_append]; rfl, by rw [Q2.out]; go_num, by
          rw [Q1.out, Q3.out, List.length_append, stVs_snoc, ← HX.out]; exact S6.out⟩
        case measure => rw [ps1, S6.out.iter_pos 1 rfl]; omega
      · have z : decide ((wbeg s pos : Int) < (pos : Int)) = false := decide_eq_false hl
        have he : (wfold (tk s pos)).2 = [] := Decidable.byContradiction fun h => hl (by have := (wbeg_some s hps).2 h; omega)
        have q3 : wordsB (tk s pos) = (wfold (tk s pos)).1 := by rw [wfin, if_pos he]
        go_wp2_with (go_at_call 39; refine KB.out.mono ?_; rintro e w2 ⟨rfl, rfl⟩)
        go_roundw
        case rel => exact ⟨pos + 1, c, B, by omega, by rw [q1, q3], by rw [q2]; go_num, by rw [q1, q3]; exact st2⟩
        case measure => rw [ps1, ps2]; omega
    · have hb : isBr r = false := by simpa using hb
      rw [hb] at KB
      obtain ⟨d1, d2, q1⟩ := step_word s hp (by rw [hr]; exact hb)
      have q2 := wbeg_step s hp (by rw [hr]; exact hb)
      rw [hd] at d1 d2 q1 q2
      go_wp2_with (go_at_call 39; refine KB.out.mono ?_; rintro e w2 ⟨rfl, rfl⟩)
      go_roundw
      case rel => exact ⟨pos + d, c, B, by omega, by rw [q1], by rw [q2], by rw [q1]; exact st2⟩
      case measure => rw [ps1, ps2]; omega
  · obtain rfl : pos = s.size := by omega
    have hnx : ∀ ty, (Instr.next (.pointer (some ⟨w.heap.size, 0, none⟩)) true ty).run Tryd.prog wr = _ := fun ty => Lib.run_next_end_at wr _ s s.size ty hit hp
    have e0 := tk_size s
    by_cases hl : (wbeg s s.size : Int) < (s.size : Int)
    · have z : decide ((wbeg s s.size : Int) < (s.size : Int)) = true := decide_eq_true hl
      have hne := (wbeg_some s hps).1 (by omega)
      have hw1 := List.length_pos_iff.2 hne
      have HX := stV_cut s (b := wbeg s s.size) (e := s.size) hwb hps
      rw [← wbeg_word s hps] at HX
      have q3 : wordsB s.data.toList = (wfold (tk s s.size)).1 ++ [(wfold (tk s s.size)).2] := by rw [← e0, wfin, if_neg hne]
      replace HX := Lib.hid HX
      have Q3 := Lib.hid q3
      clear q3 e0 hne
      have rb := rds_box wr 9 (.string (s.extract (wbeg s s.size) s.size))
      have s5 := hst.alloc (.cells #[.string (s.extract (wbeg s s.size) s.size)] 9)
      have HL := Lib.hid (s5.lis 0 rfl)
      have RB := Lib.hid rb
      have S5 := Lib.hid s5
      clear rb s5 hst
      go_wp2_with (first | (at_builtin; refine wpList_lis rfl (.tmp 32) (.tmp 36) 59 rfl 9 iS (.string ⟨#[]⟩) 1 16 Tryd.underlying59 hiS hzS hsS hbS rfl (by decide) _ _ _ rfl HL.out _ 1 1 [.string (s.extract (wbeg s s.size) s.size)] rfl RB.out (by simp [Value.oneCell']) (by unfold maxLen; omega) (by omega) ?_; intro B' c' w6 hl6 hg6 hat6; have S6 := Lib.hid (S5.out.lis_put 0 rfl hl6 hg6 hat6); clear hl6 hg6 hat6) | fail)
      go_ret
      exact ⟨B', c', by rw [Q3.out, List.length_append]; rfl, by rw [Q3.out, List.length_append, stVs_snoc, ← HX.out]; exact S6.out.take 1⟩
    · have z : decide ((wbeg s s.size : Int) < (s.size : Int)) = false := decide_eq_false hl
      have he : (wfold (tk s s.size)).2 = [] := Decidable.byContradiction fun h => hl (by have := (wbeg_some s hps).2 h; omega)
      have q3 : wordsB s.data.toList = (wfold (tk s s.size)).1 := by rw [← e0, wfin, if_pos he]
      have Q3 := Lib.hid q3
      clear q3 e0 he
      go_wp2
      go_ret
      exact ⟨B, c, by rw [Q3.out]; rfl, by rw [Q3.out]; exact hst.take 1⟩
end Go.Proofs.YtlceanlenekanaaDoor
