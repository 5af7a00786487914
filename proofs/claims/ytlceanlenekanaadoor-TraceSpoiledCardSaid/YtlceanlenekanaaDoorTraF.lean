/- Layer 25: a record's parts. -/
import Derived.Test.YtlceanlenekanaaDoorTraE
import Derived.Deep.CutBlock
import Derived.Deep.DeepCutAuto
namespace Go.Proofs.YtlceanlenekanaaDoor
open Go.RowKit
set_option linter.unusedVariables false
set_option maxRecDepth 100000
set_option maxHeartbeats 1000000
theorem whoI_len (w : Int) : (whoI w).length ≤ 2 := by
  unfold whoI
  split
  · exact Nat.le_refl _
  · split
    · exact Nat.le_refl _
    · exact Nat.le_succ _
/-- The parts ahead of the outcomes. -/
def headI (t : Tk) : List It := whoI t.who ++ (eachI 43 t.dn ++ (eachI 47 t.ct ++ eachI 33 t.ms))
theorem ptI_head (t : Tk) : ptI t = headI t ++ t.ft.flatMap ftI := by unfold ptI headI; simp
theorem ftI_snoc (fs : List (Int × Int × Int)) (i : Nat) (f : Int × Int × Int) (h : fs[i]? = some f) : (fs.take (i + 1)).flatMap ftI = (fs.take i).flatMap ftI ++ ftI f := by
  rw [take_snoc h, List.flatMap_append]
  simp
theorem ftI_len (fs : List (Int × Int × Int)) : (fs.flatMap ftI).length = 4 * fs.length := by
  induction fs with
  | nil => rfl
  | cons f fs ih =>
    rw [List.flatMap_cons, List.length_append, ih]
    show 4 + _ = 4 * (fs.length + 1)
    omega
theorem parts_o (r : Rec) (w : World) (h : r.At w) (hi : -9223372036854775808 ≤ r.t.who ∧ r.t.who ≤ 9223372036854775807) : Calls Tryd.prog 17 #[.agg r.cells] w fun e w' => ∃ B c, e = .returned (.slice B (ptI r.t).length c) ∧ St w None w' [LisR 20 1 (.slice B (ptI r.t).length c) (ptI r.t).length (itVs (ptI r.t))] := by
  obtain ⟨iA, hiA, hzA, hsA, hbA⟩ := info3c YtlceanlenekanaaDooriA
  obtain ⟨t, A1, A2, A3, A4, n1, n2, n3, n4, c1, c2, c3, c4⟩ := r
  have hb := (St.begin w).box 27 (Rec.mk t A1 A2 A3 A4 n1 n2 n3 n4 c1 c2 c3 c4).cells
  obtain ⟨a, ha⟩ : ∃ a, w.heap.size = a := ⟨_, rfl⟩
  rw [ha] at hb
  unfold Rec.cells at hb ⊢
  dsimp only at hb ⊢ hi
  obtain ⟨p0, p1, p2, p3, p4⟩ := (hb.blk 0 rfl).five5
  have HH := Lib.hid h
  have HB := Lib.hid (show St w None _ [BlkR a 27 #[.int .i64 t.who, .slice A1 n1 c1, .slice A2 n2 c2, .slice A3 n3 c3, .slice A4 n4 c4], LisR 20 1 (.slice none 0 0) 0 (itVs [])] from hb.lis_nil 20 1)
  have l1 : t.dn.length = n1 := h.l1
  have l2 : t.ct.length = n2 := h.l2
  have l3 : t.ms.length = n3 := h.l3
  have l4 : t.ft.length = n4 := h.l4
  have m1 : n1 ≤ 100000 := h.m1
  have m2 : n2 ≤ 100000 := h.m2
  have m3 : n3 ≤ 100000 := h.m3
  have m4 : n4 ≤ 100000 := h.m4
  have hwl := whoI_len t.who
  obtain ⟨W, hW⟩ : ∃ W, whoI t.who = W := ⟨_, rfl⟩
  obtain ⟨k, hk⟩ : ∃ k, W.length = k := ⟨_, rfl⟩
  rw [hW, hk] at hwl
  have HPT := Lib.hid (show ptI t = W ++ eachI 43 t.dn ++ eachI 47 t.ct ++ eachI 33 t.ms ++ t.ft.flatMap ftI by rw [← hW]; unfold ptI; simp)
  have HPL := Lib.hid (show (ptI t).length = k + 2 * n1 + 2 * n2 + 2 * n3 + 4 * n4 by
    rw [HPT.out, List.length_append, List.length_append, List.length_append, List.length_append, eachI_len, eachI_len, eachI_len, ftI_len, hk, l1, l2, l3, l4])
  clear h hb
  go_enter Tryd.func17, Tryd.ntmps17
  go_upto_block 0 with (fail)
  go_cut [3] (fun x3 wx => ∃ B c, x3 = .slice B k c ∧ St w None wx [BlkR a 27 #[.int .i64 t.who, .slice A1 n1 c1, .slice A2 n2 c2, .slice A3 n3 c3, .slice A4 n4 c4], LisR 20 1 (.slice B k c) k (itVs W)])
  case first =>
    by_cases w1 : (100 : Int) ≤ t.who
    · have d1 : decide ((100 : Int) ≤ t.who) = true := decide_eq_true w1
      have e : W = [.m 115, .n (t.who - 100)] := by rw [← hW]; exact if_pos w1
      subst e
      obtain rfl : 2 = k := hk
      have KM := marked_one 115 (t.who - 100) HB.out (q := 1) rfl (by decide)
      rw [show (w.alloc (.cells #[.int .i64 t.who, .slice A1 n1 c1, .slice A2 n2 c2, .slice A3 n3 c3, .slice A4 n4 c4] 27)).heap.size = a + 1 by rw [← ha]; simp] at KM
      replace KM := Lib.hid KM
      clear hW
      go_wp2_with (go_at_call 34; refine KM.out.mono ?_; rintro e w5 ⟨B5, c5, rfl, s5⟩)
      go_meet
      exact ⟨B5, c5, rfl, s5⟩
    · have d1 : decide ((100 : Int) ≤ t.who) = false := decide_eq_false w1
      by_cases w2 : (0 : Int) ≤ t.who
      · have d2 : decide ((0 : Int) ≤ t.who) = true := decide_eq_true w2
        have e : W = [.m 116, .n t.who] := by rw [← hW]; unfold whoI; rw [if_neg w1, if_pos w2]
        subst e
        obtain rfl : 2 = k := hk
        have KM := marked_one 116 t.who HB.out (q := 1) rfl (by decide)
        rw [show (w.alloc (.cells #[.int .i64 t.who, .slice A1 n1 c1, .slice A2 n2 c2, .slice A3 n3 c3, .slice A4 n4 c4] 27)).heap.size = a + 1 by rw [← ha]; simp] at KM
        replace KM := Lib.hid KM
        clear hW
        go_wp2_with (go_at_call 34; refine KM.out.mono ?_; rintro e w5 ⟨B5, c5, rfl, s5⟩)
        go_meet
        exact ⟨B5, c5, rfl, s5⟩
      · have d2 : decide ((0 : Int) ≤ t.who) = false := decide_eq_false w2
        have e : W = [.m 46] := by rw [← hW]; unfold whoI; rw [if_neg w1, if_neg w2]
        subst e
        obtain rfl : 1 = k := hk
        have S3 := Lib.hid (HB.out.alloc (.cells #[.iface 70 (.int .i32 46)] 20))
        have HL := Lib.hid (S3.out.lis 1 rfl)
        have RB := rds_box (w.alloc (.cells #[.int .i64 t.who, .slice A1 n1 c1, .slice A2 n2 c2, .slice A3 n3 c3, .slice A4 n4 c4] 27)) 20 (.iface 70 (.int .i32 46))
        rw [show (w.alloc (.cells #[.int .i64 t.who, .slice A1 n1 c1, .slice A2 n2 c2, .slice A3 n3 c3, .slice A4 n4 c4] 27)).heap.size = a + 1 by rw [← ha]; simp] at RB
        replace RB := Lib.hid RB
        clear hW
        go_wp2_with (first | (at_builtin; refine wpList_lis rfl (.tmp 11) (.tmp 13) 44 rfl 20 iA .nilIface 1 16 Tryd.underlying44 hiA hzA hsA hbA rfl (by decide) _ _ _ rfl HL.out _ 1 1 [.iface 70 (.int .i32 46)] rfl RB.out (by simp [Value.oneCell']) (by unfold maxLen; omega) (by omega) ?_; intro B6 c6 w6 hl6 hg6 hat6; have S6 := Lib.hid (S3.out.lis_put 1 rfl hl6 hg6 hat6); clear hl6 hg6 hat6) | fail)
        go_meet
        exact ⟨_, _, rfl, S6.out⟩
  case rest =>
    obtain ⟨B, c, rfl, hs⟩ := hcut
    obtain ⟨p0, p1, p2, p3, p4⟩ := (hs.blk 0 rfl).five5
    have HW := Lib.hid hW
    clear hW hk
    have K1 := Lib.hid (marked_in (A := A1) (c := c1) (xs := t.dn) 43 hs (q := 1) rfl l1 m1 (by omega) HH.out.r1)
    go_wp2_with fail
    refine K1.out.mono ?_
    rintro e w1 ⟨B1, d1, rfl, s1⟩
    obtain ⟨p0, p1, p2, p3, p4⟩ := (s1.blk 0 rfl).five5
    have K2 := Lib.hid (marked_in (A := A2) (c := c2) (xs := t.ct) 47 s1 (q := 1) rfl l2 m2 (by omega) HH.out.r2)
    go_wp2_with fail
    refine K2.out.mono ?_
    rintro e w2 ⟨B2, d2, rfl, s2⟩
    obtain ⟨p0, p1, p2, p3, p4⟩ := (s2.blk 0 rfl).five5
    have K3 := Lib.hid (marked_in (A := A3) (c := c3) (xs := t.ms) 33 s2 (q := 1) rfl l3 m3 (by omega) HH.out.r3)
    go_wp2_with fail
    refine K3.out.mono ?_
    rintro e w3 ⟨B3, d3, rfl, s3⟩
    obtain ⟨p0, p1, p2, p3, p4⟩ := (s3.blk 0 rfl).five5
    obtain ⟨Hd, hHd⟩ : ∃ Hd, W ++ eachI 43 t.dn ++ eachI 47 t.ct ++ eachI 33 t.ms = Hd := ⟨_, rfl⟩
    obtain ⟨K, hK⟩ : ∃ K, k + 2 * n1 + 2 * n2 + 2 * n3 = K := ⟨_, rfl⟩
    have hKl : K ≤ 700000 := by omega
    have S3 := Lib.hid (show St w None w3 [BlkR a 27 #[.int .i64 t.who, .slice A1 n1 c1, .slice A2 n2 c2, .slice A3 n3 c3, .slice A4 n4 c4], LisR 20 1 (.slice B3 K d3) K (itVs Hd)] from by
      rw [← hHd, ← hK]; exact s3)
    rw [hHd] at HPT
    rw [hK] at HPL ⊢
    clear hs s1 s2 s3 hHd
    go_wp2_with fail
    go_loopw [3, 6, 7, 48] (fun x3 _ _ x48 wr => ∃ (i cB : Nat) (B : Option Addr), i ≤ n4 ∧ x3 = .slice B (K + 4 * i) cB ∧ x48 = .int .i64 (i : Int) ∧ St w None wr [BlkR a 27 #[.int .i64 t.who, .slice A1 n1 c1, .slice A2 n2 c2, .slice A3 n3 c3, .slice A4 n4 c4], LisR 20 1 (.slice B (K + 4 * i) cB) (K + 4 * i) (itVs (Hd ++ (t.ft.take i).flatMap ftI))]) (fun _ _ _ x48 _ => n4 - (intOf x48).toNat)
    case atStart => exact ⟨0, d3, B3, Nat.zero_le _, rfl, rfl, by
      rw [List.take_zero, List.flatMap_nil, List.append_nil]; exact S3.out⟩
    case round =>
    obtain ⟨i, cB, B, hi, rfl, rfl, hst⟩ := hrel
    clear p0 p1 p2 p3 p4
    by_cases hlt : i < n4
    · have z1 : decide ((i : Int) < (n4 : Int)) = true := decide_eq_true (by omega)
      obtain ⟨f, hf⟩ : ∃ f, t.ft[i]? = some f := ⟨t.ft[i]'(by omega), List.getElem?_eq_getElem _⟩
      obtain ⟨g, o, hA4, hg, k0, k1, k2⟩ := (HH.out.on hst.below).r4 i f hf
      dsimp only at hA4
      subst hA4
      have HX := Lib.hid (ftI_snoc t.ft i f hf)
      have sb := hst.box 36 (fV f)
      unfold fV at sb
      have KM := marked_one 61 f.1 sb (q := 1) rfl (by omega)
      rw [show (wr.alloc (.cells #[.int .i64 f.1, .int .i64 f.2.1, .int .i64 f.2.2] 36)).heap.size = wr.heap.size + 1 by simp] at KM
      replace KM := Lib.hid KM
      clear hst hf sb
      have dd : ((f.2.1 == 1) = true ∧ (if f.2.1 = 1 then (100 : Int) else 97) = 100) ∨ ((f.2.1 == 1) = false ∧ (if f.2.1 = 1 then (100 : Int) else 97) = 97) := by
        by_cases h : f.2.1 = 1
        · exact Or.inl ⟨beq_iff_eq.2 h, if_pos h⟩
        · exact Or.inr ⟨beq_eq_false_iff_ne.2 h, if_neg h⟩
      rcases dd with ⟨d1, d2⟩ | ⟨d1, d2⟩ <;> (
        have HD := Lib.hid d2
        clear d2
        go_wp2_with fail
        refine KM.out.mono ?_
        rintro e w5 ⟨B5, c5, rfl, s5⟩
        obtain ⟨q0, q1, q2⟩ := (s5.blk 2 rfl).three
        have KN := Lib.hid (fun how => marked_one how f.2.2 s5 (q := 1) rfl (by omega))
        clear s5
        go_wp2_with fail
        refine (KN.out _).mono ?_
        rintro e w6 ⟨B6, c6, rfl, s6⟩
        have S6 := Lib.hid (s6.take 2)
        clear s6
        go_wp2_with fail
        go_roundw
        case rel => exact ⟨i + 1, c6, B6, by omega, rfl, by go_num, by
          rw [HX.out]
          unfold ftI
          rw [HD.out]
          have := S6.out
          simp only [List.append_assoc, List.cons_append, List.nil_append] at this ⊢
          exact this⟩
        case measure => simp [intOf]; omega)
    obtain rfl : i = n4 := by omega
    have z1 : decide ((i : Int) < (i : Int)) = false := decide_eq_false (by omega)
    rw [List.take_of_length_le (by omega)] at hst
    have S9 := Lib.hid (hst.only 1 rfl)
    clear hst
    go_wp2_with fail
    go_ret
    exact ⟨B, cB, by rw [HPL.out]; rfl, by rw [HPL.out, HPT.out]; exact S9.out⟩
end Go.Proofs.YtlceanlenekanaaDoor
