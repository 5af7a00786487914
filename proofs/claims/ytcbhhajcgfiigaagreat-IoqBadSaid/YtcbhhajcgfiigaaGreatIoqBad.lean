/-
  For every way and status IoqBad answers true, and changes nothing: an error of the device, or being called off, aborts a request, and its buffer is a task's; a second one of the same number comes in when its descriptor was reaped. No condition.
-/
import Derived.Test.YtcbhhajcgfiigaaGreatRows
import Derived.Test.YtcbhhajcgfiigaaGreatFr
import Derived.Test.YtcbhhajcgfiigaaGreatIoqW
namespace Go.Proofs.YtcbhhajcgfiigaaGreat.ioqBad
open Go.ChangeShapes Go.WideShapes Go.ChangeAt Go.RowKit
set_option linter.unusedVariables false
theorem own : ownKnob Tryz.prog.godebug = none := by kernel_rfl
theorem laid : laidOutB Tryz.prog = true := by kernel_rfl
set_option maxRecDepth 100000
set_option maxHeartbeats 4000000
def rB : Rq := ⟨4, 0, 80, 0, 1, 1, 0, 3, false, false, false, false⟩
theorem walk (a' b : Int) (w : World) (ba : 0 ≤ a' ∧ a' ≤ 255) (bb : 0 ≤ b ∧ b ≤ 255) :
    Calls Tryz.prog 8 #[.int .u8 a', .int .u8 b] w fun r w' => r = .returned (.bool true) ∧ Below w.heap.size w w' := by
  have AW := Lib.hid (awake_c w)
  obtain ⟨k, hk⟩ : ∃ k, a' % 4 = k := ⟨_, rfl⟩
  have ck : Int.tmod a' 4 = k := by rw [← hk]; exact Int.tmod_eq_emod_of_nonneg (by omega)
  have hk4 : k = 0 ∨ k = 1 ∨ k = 2 ∨ k = 3 := by omega
  clear hk
  have hlen : ((stG 4 1).bs.length : Int) = 8 := by decide
  have hI0 : DvI 5 2 1 (Dv.new (stG 4) 5) := newI ⟨by omega, by omega⟩ rfl
  obtain ⟨D0, hP1, O0⟩ := one_sub (i := 1) (r := rB) (c := 5) (stt := 0) (bad := false) hI0 rfl (by omega) rfl (by decide) (by decide) (by decide) ⟨rfl, rfl, rfl⟩ (by decide)
  have TW := Lib.hid (show ∀ (now : Int) (D : Dv) (p t r : Nat) (fi vo bad : Bool) (stt : Int) (un : List Ft) (_ : True) (_ : OneF 5 2 1 (stG 4) rB 5 now D p t r fi vo bad stt un), po.SizeP 5 D.st 1 1 (((stG 4 1).bs.length : Nat) : Int) 0 ∧ po.OwnerP 5 D.st 1 1 (D.st 1).owner (D.st 1).refs 0 from fun now D p t r fi vo bad stt un _ h => h.tells (i := 1) (by omega) (by decide))
  have ow1 := O0.owner (i := 1) (by omega) rfl rfl (by omega) (by omega)
  rw [if_neg (by omega)] at ow1
  have hP2 : SubP 5 D0 (((stG 4 1).bs.length : Nat) : Int) 0 (D0.st 1).owner rB 8 D0 := Or.inr (Or.inl ⟨by decide, by rw [ow1]; omega, rfl, rfl⟩)
  have hz0 : po.SizeP 5 (Dv.new (stG 4) 5).st 1 1 (((stG 4 1).bs.length : Nat) : Int) 0 := Or.inr ⟨1, by omega, rfl, by decide, by decide, rfl, rfl⟩
  have ho0 : po.OwnerP 5 (Dv.new (stG 4) 5).st 1 1 1 (stG 4 1).refs 0 := Or.inr ⟨1, by omega, rfl, by decide, by decide, by decide, rfl, rfl⟩
  have HI0 := Lib.hid hI0
  have HP1 := Lib.hid hP1
  have HP2 := Lib.hid hP2
  have HZ0 := Lib.hid hz0
  have HW0 := Lib.hid ho0
  have HO0 := Lib.hid O0
  clear hI0 hP1 hP2 hz0 ho0 O0 ow1 hlen
  go_enter Tryz.func8, Tryz.ntmps8
  go_wp2_with fail
  refine AW.out.mono ?_
  rintro e w0 ⟨rfl, s0⟩
  have K0 := Lib.hid (got_c s0)
  clear AW s0
  go_wp2_with fail
  refine K0.out.mono ?_
  rintro e w1 ⟨p, rfl, s1⟩
  have K1 := Lib.hid (show Calls Tryz.prog 12 #[ptrV p, .int .i64 2, .int .u64 5] w1 (fun e w' => ∃ a : Da, a.p = p ∧ e = .returned (.tuple #[ptrV a.d, .int .i64 0]) ∧ St w None w' (DvL a 5 2 (fun _ => 0) (Dv.new (stG 4) 5) ++ [])) from newD_o (sz := 2) (c := 5) (X := []) s1 (fun _ => 0) (by omega) (by omega) rfl)
  clear s1 K0
  go_wp2_with fail
  refine K1.out.mono ?_
  rintro e w2 ⟨a, rfl, rfl, s2⟩
  have s3 := dv_box (dv_box s2 37 #[.int .i64 1, .int .u64 1]) 45 #[.int .i64 4, .int .i64 0, .int .u64 80, .int .i64 0, .int .i64 1, .int .u64 1, .int .i64 0, .int .i64 3]
  rw [List.nil_append] at s3
  obtain ⟨hb, hhb⟩ : ∃ hb, w2.heap.size = hb := ⟨_, rfl⟩
  have hhr : (w2.alloc (.cells #[.int .i64 1, .int .u64 1] 37)).heap.size = hb + 1 := by rw [← hhb]; simp
  rw [hhr, hhb] at s3
  obtain ⟨rb, hrb⟩ : ∃ rb, hb + 1 = rb := ⟨_, rfl⟩
  rw [hrb] at s3
  have BX := Lib.hid (show ∀ (V : World) (bq : Nat → Nat) (E : Dv) (Y : List Res), St w None V (DvL a 5 2 bq E ++ ([BlkR hb 37 #[.int .i64 1, .int .u64 1], BlkR rb 45 #[.int .i64 4, .int .i64 0, .int .u64 80, .int .i64 0, .int .i64 1, .int .u64 1, .int .i64 0, .int .i64 3]] ++ Y)) → V.cell? ⟨hb, 0, none⟩ = some (.int .i64 1) ∧ V.cell? ⟨hb, 1, none⟩ = some (.int .u64 1) ∧ V.cell? ⟨rb, 0, none⟩ = some (.int .i64 4) ∧ V.cell? ⟨rb, 1, none⟩ = some (.int .i64 0) ∧ V.cell? ⟨rb, 2, none⟩ = some (.int .u64 80) ∧ V.cell? ⟨rb, 3, none⟩ = some (.int .i64 0) ∧ V.cell? ⟨rb, 4, none⟩ = some (.int .i64 1) ∧ V.cell? ⟨rb, 5, none⟩ = some (.int .u64 1) ∧ V.cell? ⟨rb, 6, none⟩ = some (.int .i64 0) ∧ V.cell? ⟨rb, 7, none⟩ = some (.int .i64 3) from fun V bq E Y s => by
    have b1 := dv_blk s 0 rfl
    have b2 := dv_blk s 1 rfl
    exact ⟨b1.cell 0, b1.cell 1, b2.cell 0, b2.cell 1, b2.cell 2, b2.cell 3, b2.cell 4, b2.cell 5, b2.cell 6, b2.cell 7⟩)
  have K2 := Lib.hid (show Calls Tryz.prog 18 #[ptrV a.d, .agg #[.int .i64 4, .int .i64 0, .int .u64 80, .int .i64 0, .int .i64 1, .int .u64 1, .int .i64 0, .int .i64 3]] _ _ from subD_o s3 HI0.out rB ⟨rfl, rfl, rfl, rfl⟩ (wf_small (by decide) (by decide)) (by decide) (by decide) HZ0.out HW0.out HP1.out)
  obtain ⟨x0, x1, y0, y1, y2, y3, y4, y5, y6, y7⟩ := BX.out _ _ _ [] s3
  clear s2 s3 K1 hhr
  go_wp2_with fail
  refine K2.out.mono ?_
  rintro e w4 ⟨rfl, bq, s4⟩
  clear K2 x0 x1 y0 y1 y2 y3 y4 y5 y6 y7
  have K3 := Lib.hid (show Calls Tryz.prog 18 #[ptrV a.d, .agg #[.int .i64 4, .int .i64 0, .int .u64 80, .int .i64 0, .int .i64 1, .int .u64 1, .int .i64 0, .int .i64 3]] _ _ from subD_o s4 HO0.out.I rB ⟨rfl, rfl, rfl, rfl⟩ (wf_small (by decide) (by decide)) (by decide) (by decide) (TW.out _ _ _ _ _ _ _ _ _ _ trivial HO0.out).1 (TW.out _ _ _ _ _ _ _ _ _ _ trivial HO0.out).2 HP2.out)
  obtain ⟨x0, x1, y0, y1, y2, y3, y4, y5, y6, y7⟩ := BX.out _ _ _ [] s4
  clear s4
  go_wp2_with fail
  refine K3.out.mono ?_
  rintro e w5 ⟨rfl, bq2, s0⟩
  clear K3 x0 x1 y0 y1 y2 y3 y4 y5 y6 y7
  rcases hk4 with rfl | rfl | rfl | rfl
  · as_aux_lemma =>
    have K1 := Lib.hid (canW (id := 4) s0 HO0.out.I (wf_small (by decide) (by decide)))
    clear s0
    go_wp2_with fail
    refine K1.out.mono ?_
    rintro e w' ⟨rfl, k, q', st', hk, hI, hK, s1⟩
    clear K1
    rw [show outA D0.b 4 = 0 from HO0.out.can]
    have O1 : OneF 5 2 1 (stG 4) rB 5 0 (D0.canD 4 k q' st') 0 0 0 false true false 0 [⟨4, 2, 3⟩] := HO0.out.cancel hk hI hK
    obtain ⟨D1, hD⟩ : ∃ D, D0.canD 4 k q' st' = D := ⟨_, rfl⟩
    rw [hD] at O1 s1
    clear hD
    have HO1 := Lib.hid O1
    clear O1
    clear hk hI hK
    have K2 := Lib.hid (canW (id := 4) s1 HO1.out.I (wf_small (by decide) (by decide)))
    clear s1
    go_wp2_with fail
    refine K2.out.mono ?_
    rintro e w' ⟨rfl, k, q', st', -, -, -, s2⟩
    clear K2
    rw [HO1.out.can6 4]
    rw [HO1.out.can_same] at s2
    obtain ⟨x0, x1, y0, y1, y2, y3, y4, y5, y6, y7⟩ := BX.out _ _ _ _ s2
    have K3 := Lib.hid (show Calls Tryz.prog 40 #[ptrV a.p, .agg #[.int .i64 1, .int .u64 1]] _ _ from po.owner_o s2 1 rfl HO1.out.I.c.pok (TW.out _ _ _ _ _ _ _ _ _ _ trivial HO1.out).2)
    clear x0 x1 y0 y1 y2 y3 y4 y5 y6 y7
    obtain ⟨x0, x1, y0, y1, y2, y3, y4, y5, y6, y7⟩ := BX.out _ _ _ _ s2
    clear s2
    go_wp2_with fail
    refine K3.out.mono ?_
    rintro e w' ⟨rfl, s3⟩
    clear K3
    rw [show (D1.st 1).owner = 1 from HO1.out.task (i := 1) (by omega) (by decide)]
    replace s3 : St w None w' (DvL a 5 2 _ D1 ++ _) := s3
    clear x0 x1 y0 y1 y2 y3 y4 y5 y6 y7
    have K4 := Lib.hid (goW (u := 2) s3 HO1.out.I (by omega))
    clear s3
    go_wp2_with fail
    refine K4.out.mono ?_
    rintro e w' ⟨B, m, d, o, D4, rfl, ho, hl, -, hI, hG, -, -, s4⟩
    clear K4
    obtain ⟨hg, rfl, -⟩ := HO1.out.go (by omega) (by omega) ho hI hG
    rw [hg]
    obtain rfl : m = 1 := hl.symm
    have O4 : OneF 5 2 1 (stG 4) rB 5 2 (D4) 0 0 0 false true false 0 [] := (HO1.out.go (by omega) (by omega) ho hI hG).2.2
    have HO4 := Lib.hid O4
    clear O4
    clear ho hl hI hG hg
    obtain ⟨fb, fo, rfl, fc⟩ := (dv_lis s4 2 rfl).reads.2.resolve_left (by omega)
    have f0 : w'.cell? ⟨fb, fo, none⟩ = some (.int .i64 4) := fc 0 _ rfl
    have f1 : w'.cell? ⟨fb, fo + 1, none⟩ = some (.int .i64 2) := fc 1 _ rfl
    have f2 : w'.cell? ⟨fb, fo + 2, none⟩ = some (.int .i64 3) := fc 2 _ rfl
    clear fc
    obtain ⟨x0, x1, y0, y1, y2, y3, y4, y5, y6, y7⟩ := BX.out _ _ _ _ s4
    obtain ⟨D9, hP9⟩ := HO4.out.again (i := 1) rfl (by omega) rfl rfl (by decide) (by decide) ⟨rfl, rfl, rfl⟩ (by decide)
    have K5 := Lib.hid (show Calls Tryz.prog 18 #[ptrV a.d, .agg #[.int .i64 4, .int .i64 0, .int .u64 80, .int .i64 0, .int .i64 1, .int .u64 1, .int .i64 0, .int .i64 3]] _ _ from subD_o s4 HO4.out.I rB ⟨rfl, rfl, rfl, rfl⟩ (wf_small (by decide) (by decide)) (by decide) (by decide) (TW.out _ _ _ _ _ _ _ _ _ _ trivial HO4.out).1 (TW.out _ _ _ _ _ _ _ _ _ _ trivial HO4.out).2 hP9)
    clear x0 x1 y0 y1 y2 y3 y4 y5 y6 y7
    obtain ⟨x0, x1, y0, y1, y2, y3, y4, y5, y6, y7⟩ := BX.out _ _ _ _ s4
    clear s4
    go_wp2_with fail
    refine K5.out.mono ?_
    rintro e w' ⟨rfl, bq, s5⟩
    clear K5
    clear f0 f1 f2
    clear x0 x1 y0 y1 y2 y3 y4 y5 y6 y7
    go_wp2_with fail
    go_ret
    exact ⟨rfl, (s5.take 0).below⟩
  · as_aux_lemma =>
    have K1 := Lib.hid (startW s0 HO0.out.I)
    clear s0
    go_wp2_with fail
    refine K1.out.mono ?_
    rintro e w' ⟨B, d, ids, D1, rfl, -, -, hF, hI, e1, e2, e3, -, e5, s1⟩
    clear K1
    obtain rfl := (HO0.out.start hI hF e1 e2 e3 e5).1
    have O1 : OneF 5 2 1 (stG 4) rB 5 0 (D1) 1 0 0 false false false 0 [] := (HO0.out.start hI hF e1 e2 e3 e5).2
    have HO1 := Lib.hid O1
    clear O1
    clear hF hI e1 e2 e3 e5
    have K2 := Lib.hid (canW (id := 4) s1 HO1.out.I (wf_small (by decide) (by decide)))
    clear s1
    go_wp2_with fail
    refine K2.out.mono ?_
    rintro e w' ⟨rfl, k, q', st', hk, hI, hK, s2⟩
    clear K2
    rw [show outA D1.b 4 = 0 from HO1.out.can]
    have O2 : OneF 5 2 1 (stG 4) rB 5 0 (D1.canD 4 k q' st') 1 0 0 false true false 0 [⟨4, 2, 3⟩] := HO1.out.cancel hk hI hK
    obtain ⟨D2, hD⟩ : ∃ D, D1.canD 4 k q' st' = D := ⟨_, rfl⟩
    rw [hD] at O2 s2
    clear hD
    have HO2 := Lib.hid O2
    clear O2
    clear hk hI hK
    have K3 := Lib.hid (canW (id := 4) s2 HO2.out.I (wf_small (by decide) (by decide)))
    clear s2
    go_wp2_with fail
    refine K3.out.mono ?_
    rintro e w' ⟨rfl, k, q', st', -, -, -, s3⟩
    clear K3
    rw [HO2.out.can6 4]
    rw [HO2.out.can_same] at s3
    obtain ⟨x0, x1, y0, y1, y2, y3, y4, y5, y6, y7⟩ := BX.out _ _ _ _ s3
    have K4 := Lib.hid (show Calls Tryz.prog 40 #[ptrV a.p, .agg #[.int .i64 1, .int .u64 1]] _ _ from po.owner_o s3 1 rfl HO2.out.I.c.pok (TW.out _ _ _ _ _ _ _ _ _ _ trivial HO2.out).2)
    clear x0 x1 y0 y1 y2 y3 y4 y5 y6 y7
    obtain ⟨x0, x1, y0, y1, y2, y3, y4, y5, y6, y7⟩ := BX.out _ _ _ _ s3
    clear s3
    go_wp2_with fail
    refine K4.out.mono ?_
    rintro e w' ⟨rfl, s4⟩
    clear K4
    rw [show (D2.st 1).owner = 1 from HO2.out.task (i := 1) (by omega) (by decide)]
    replace s4 : St w None w' (DvL a 5 2 _ D2 ++ _) := s4
    clear x0 x1 y0 y1 y2 y3 y4 y5 y6 y7
    have K5 := Lib.hid (goW (u := 2) s4 HO2.out.I (by omega))
    clear s4
    go_wp2_with fail
    refine K5.out.mono ?_
    rintro e w' ⟨B, m, d, o, D5, rfl, ho, hl, -, hI, hG, -, -, s5⟩
    clear K5
    obtain ⟨hg, rfl, -⟩ := HO2.out.go (by omega) (by omega) ho hI hG
    rw [hg]
    obtain rfl : m = 1 := hl.symm
    have O5 : OneF 5 2 1 (stG 4) rB 5 2 (D5) 1 0 0 false true false 0 [] := (HO2.out.go (by omega) (by omega) ho hI hG).2.2
    have HO5 := Lib.hid O5
    clear O5
    clear ho hl hI hG hg
    obtain ⟨fb, fo, rfl, fc⟩ := (dv_lis s5 3 rfl).reads.2.resolve_left (by omega)
    have f0 : w'.cell? ⟨fb, fo, none⟩ = some (.int .i64 4) := fc 0 _ rfl
    have f1 : w'.cell? ⟨fb, fo + 1, none⟩ = some (.int .i64 2) := fc 1 _ rfl
    have f2 : w'.cell? ⟨fb, fo + 2, none⟩ = some (.int .i64 3) := fc 2 _ rfl
    clear fc
    obtain ⟨x0, x1, y0, y1, y2, y3, y4, y5, y6, y7⟩ := BX.out _ _ _ _ s5
    have K6 := Lib.hid (show Calls Tryz.prog 18 #[ptrV a.d, .agg #[.int .i64 4, .int .i64 0, .int .u64 80, .int .i64 0, .int .i64 1, .int .u64 1, .int .i64 0, .int .i64 3]] _ _ from subD_o s5 HO5.out.I rB ⟨rfl, rfl, rfl, rfl⟩ (wf_small (by decide) (by decide)) (by decide) (by decide) (TW.out _ _ _ _ _ _ _ _ _ _ trivial HO5.out).1 (TW.out _ _ _ _ _ _ _ _ _ _ trivial HO5.out).2 (HO5.out.exists_ (i := 1) (by omega) (by decide) (by decide)))
    clear x0 x1 y0 y1 y2 y3 y4 y5 y6 y7
    obtain ⟨x0, x1, y0, y1, y2, y3, y4, y5, y6, y7⟩ := BX.out _ _ _ _ s5
    clear s5
    go_wp2_with fail
    refine K6.out.mono ?_
    rintro e w' ⟨rfl, bq, s6⟩
    clear K6
    clear f0 f1 f2
    clear x0 x1 y0 y1 y2 y3 y4 y5 y6 y7
    have K7 := Lib.hid (takeW s6 HO5.out.I)
    clear s6
    go_wp2_with fail
    refine K7.out.mono ?_
    rintro e w' ⟨D', no, f, d, rfl, hh, s7⟩
    clear K7
    obtain ⟨k, st', h1, h3, h4, rfl, h5, rfl, rfl, rfl⟩ : ∃ k st', D5.pst (D5.g.taken : Int) = some k ∧ KeepS 5 D5.st st' ∧ ((D5.rq k).vo = true → st' = D5.st) ∧ D' = D5.tkD 0 ⟨D5.g.put, D5.g.taken + 1, D5.g.reaped, D5.g.D⟩ k st' ∧ DvI 5 2 1 D' ∧ no = (D5.g.taken : Int) ∧ d = D5.g.D D5.g.taken ∧ f = 0 := by
      rcases hh with ⟨e, -⟩ | ⟨-, h1, h2, h3, k, st', h4, h5, h6, h7, h8, h9⟩
      · rw [HO5.out.hput, HO5.out.htaken] at e; omega
      · exact ⟨k, st', h4, h6, h7, h8, h9, h1, h2, h3⟩
    have O7 : OneF 5 2 1 (stG 4) rB 5 2 (D5.tkD 0 ⟨D5.g.put, D5.g.taken + 1, D5.g.reaped, D5.g.D⟩ k st') 1 1 0 false true false 0 [] := HO5.out.take h1 h3 h5 h4
    obtain ⟨D7, hD⟩ : ∃ D, D5.tkD 0 ⟨D5.g.put, D5.g.taken + 1, D5.g.reaped, D5.g.D⟩ k st' = D := ⟨_, rfl⟩
    rw [hD] at O7 s7
    clear hD
    have HO7 := Lib.hid O7
    clear O7
    clear h1 h3 h4 h5 hh
    rw [show (D5.g.taken : Int) = 0 from by rw [HO5.out.htaken]; rfl]
    generalize D5.g.D D5.g.taken = d'
    unfold ri.Dsc.v
    have K8 := Lib.hid (finW (no := 0) (stt := 0) s7 HO7.out.I false (wf_small (by decide) (by decide)))
    clear s7
    go_wp2_with fail
    refine K8.out.mono ?_
    rintro e w' ⟨f, g', k, rfl, hP, hk, hI, s8⟩
    clear K8
    obtain rfl := (HO7.out.fin false ⟨by omega, by omega⟩ hP hk hI).1
    have O8 : OneF 5 2 1 (stG 4) rB 5 2 (D7.finD 0 g' k false) 1 1 0 true true false 0 [] := (HO7.out.fin false ⟨by omega, by omega⟩ hP hk hI).2
    obtain ⟨D8, hD⟩ : ∃ D, D7.finD 0 g' k false = D := ⟨_, rfl⟩
    rw [hD] at O8 s8
    clear hD
    have HO8 := Lib.hid O8
    clear O8
    clear hP hk hI
    have K9 := Lib.hid (reapW s8 HO8.out.I)
    clear s8
    go_wp2_with fail
    refine K9.out.mono ?_
    rintro e w' ⟨d, f, g', k, q', st', rfl, hP, hk, hI, hK, s9⟩
    clear K9
    obtain ⟨rfl, hreq, -⟩ := HO8.out.reap hP hk hI hK
    rw [if_pos rfl, hreq, show rB.id = 4 from rfl]
    have O9 : OneF 5 2 1 (stG 4) rB 5 2 (D8.rpD 0 g' k d.st q' st') 1 1 1 true true false 0 [] := (HO8.out.reap hP hk hI hK).2.2
    obtain ⟨D9, hD⟩ : ∃ D, D8.rpD 0 g' k d.st q' st' = D := ⟨_, rfl⟩
    rw [hD] at O9 s9
    clear hD
    have HO9 := Lib.hid O9
    clear O9
    clear hP hk hI hK hreq
    obtain ⟨x0, x1, y0, y1, y2, y3, y4, y5, y6, y7⟩ := BX.out _ _ _ _ s9
    obtain ⟨D9, hP9⟩ := HO9.out.again (i := 1) rfl (by omega) rfl rfl (by decide) (by decide) ⟨rfl, rfl, rfl⟩ (by decide)
    have K10 := Lib.hid (show Calls Tryz.prog 18 #[ptrV a.d, .agg #[.int .i64 4, .int .i64 0, .int .u64 80, .int .i64 0, .int .i64 1, .int .u64 1, .int .i64 0, .int .i64 3]] _ _ from subD_o s9 HO9.out.I rB ⟨rfl, rfl, rfl, rfl⟩ (wf_small (by decide) (by decide)) (by decide) (by decide) (TW.out _ _ _ _ _ _ _ _ _ _ trivial HO9.out).1 (TW.out _ _ _ _ _ _ _ _ _ _ trivial HO9.out).2 hP9)
    clear x0 x1 y0 y1 y2 y3 y4 y5 y6 y7
    obtain ⟨x0, x1, y0, y1, y2, y3, y4, y5, y6, y7⟩ := BX.out _ _ _ _ s9
    clear s9
    go_wp2_with fail
    refine K10.out.mono ?_
    rintro e w' ⟨rfl, bq, s10⟩
    clear K10
    clear x0 x1 y0 y1 y2 y3 y4 y5 y6 y7
    go_wp2_with fail
    go_ret
    exact ⟨rfl, (s10.take 0).below⟩
  · as_aux_lemma =>
    have K1 := Lib.hid (startW s0 HO0.out.I)
    clear s0
    go_wp2_with fail
    refine K1.out.mono ?_
    rintro e w' ⟨B, d, ids, D1, rfl, -, -, hF, hI, e1, e2, e3, -, e5, s1⟩
    clear K1
    obtain rfl := (HO0.out.start hI hF e1 e2 e3 e5).1
    have O1 : OneF 5 2 1 (stG 4) rB 5 0 (D1) 1 0 0 false false false 0 [] := (HO0.out.start hI hF e1 e2 e3 e5).2
    have HO1 := Lib.hid O1
    clear O1
    clear hF hI e1 e2 e3 e5
    have K2 := Lib.hid (takeW s1 HO1.out.I)
    clear s1
    go_wp2_with fail
    refine K2.out.mono ?_
    rintro e w' ⟨D', no, f, d, rfl, hh, s2⟩
    clear K2
    obtain ⟨k, st', h1, h3, h4, rfl, h5, rfl, rfl, rfl⟩ : ∃ k st', D1.pst (D1.g.taken : Int) = some k ∧ KeepS 5 D1.st st' ∧ ((D1.rq k).vo = true → st' = D1.st) ∧ D' = D1.tkD 0 ⟨D1.g.put, D1.g.taken + 1, D1.g.reaped, D1.g.D⟩ k st' ∧ DvI 5 2 1 D' ∧ no = (D1.g.taken : Int) ∧ d = D1.g.D D1.g.taken ∧ f = 0 := by
      rcases hh with ⟨e, -⟩ | ⟨-, h1, h2, h3, k, st', h4, h5, h6, h7, h8, h9⟩
      · rw [HO1.out.hput, HO1.out.htaken] at e; omega
      · exact ⟨k, st', h4, h6, h7, h8, h9, h1, h2, h3⟩
    have O2 : OneF 5 2 1 (stG 4) rB 5 0 (D1.tkD 0 ⟨D1.g.put, D1.g.taken + 1, D1.g.reaped, D1.g.D⟩ k st') 1 1 0 false false false 0 [] := HO1.out.take h1 h3 h5 h4
    obtain ⟨D2, hD⟩ : ∃ D, D1.tkD 0 ⟨D1.g.put, D1.g.taken + 1, D1.g.reaped, D1.g.D⟩ k st' = D := ⟨_, rfl⟩
    rw [hD] at O2 s2
    clear hD
    have HO2 := Lib.hid O2
    clear O2
    clear h1 h3 h4 h5 hh
    rw [show (D1.g.taken : Int) = 0 from by rw [HO1.out.htaken]; rfl]
    generalize D1.g.D D1.g.taken = d'
    unfold ri.Dsc.v
    have K3 := Lib.hid (canW (id := 4) s2 HO2.out.I (wf_small (by decide) (by decide)))
    clear s2
    go_wp2_with fail
    refine K3.out.mono ?_
    rintro e w' ⟨rfl, k, q', st', hk, hI, hK, s3⟩
    clear K3
    rw [show outA D2.b 4 = 0 from HO2.out.can]
    have O3 : OneF 5 2 1 (stG 4) rB 5 0 (D2.canD 4 k q' st') 1 1 0 false true false 0 [⟨4, 2, 3⟩] := HO2.out.cancel hk hI hK
    obtain ⟨D3, hD⟩ : ∃ D, D2.canD 4 k q' st' = D := ⟨_, rfl⟩
    rw [hD] at O3 s3
    clear hD
    have HO3 := Lib.hid O3
    clear O3
    clear hk hI hK
    have K4 := Lib.hid (canW (id := 4) s3 HO3.out.I (wf_small (by decide) (by decide)))
    clear s3
    go_wp2_with fail
    refine K4.out.mono ?_
    rintro e w' ⟨rfl, k, q', st', -, -, -, s4⟩
    clear K4
    rw [HO3.out.can6 4]
    rw [HO3.out.can_same] at s4
    obtain ⟨x0, x1, y0, y1, y2, y3, y4, y5, y6, y7⟩ := BX.out _ _ _ _ s4
    have K5 := Lib.hid (show Calls Tryz.prog 40 #[ptrV a.p, .agg #[.int .i64 1, .int .u64 1]] _ _ from po.owner_o s4 1 rfl HO3.out.I.c.pok (TW.out _ _ _ _ _ _ _ _ _ _ trivial HO3.out).2)
    clear x0 x1 y0 y1 y2 y3 y4 y5 y6 y7
    obtain ⟨x0, x1, y0, y1, y2, y3, y4, y5, y6, y7⟩ := BX.out _ _ _ _ s4
    clear s4
    go_wp2_with fail
    refine K5.out.mono ?_
    rintro e w' ⟨rfl, s5⟩
    clear K5
    rw [show (D3.st 1).owner = 1 from HO3.out.task (i := 1) (by omega) (by decide)]
    replace s5 : St w None w' (DvL a 5 2 _ D3 ++ _) := s5
    clear x0 x1 y0 y1 y2 y3 y4 y5 y6 y7
    have K6 := Lib.hid (goW (u := 2) s5 HO3.out.I (by omega))
    clear s5
    go_wp2_with fail
    refine K6.out.mono ?_
    rintro e w' ⟨B, m, d, o, D6, rfl, ho, hl, -, hI, hG, -, -, s6⟩
    clear K6
    obtain ⟨hg, rfl, -⟩ := HO3.out.go (by omega) (by omega) ho hI hG
    rw [hg]
    obtain rfl : m = 1 := hl.symm
    have O6 : OneF 5 2 1 (stG 4) rB 5 2 (D6) 1 1 0 false true false 0 [] := (HO3.out.go (by omega) (by omega) ho hI hG).2.2
    have HO6 := Lib.hid O6
    clear O6
    clear ho hl hI hG hg
    obtain ⟨fb, fo, rfl, fc⟩ := (dv_lis s6 3 rfl).reads.2.resolve_left (by omega)
    have f0 : w'.cell? ⟨fb, fo, none⟩ = some (.int .i64 4) := fc 0 _ rfl
    have f1 : w'.cell? ⟨fb, fo + 1, none⟩ = some (.int .i64 2) := fc 1 _ rfl
    have f2 : w'.cell? ⟨fb, fo + 2, none⟩ = some (.int .i64 3) := fc 2 _ rfl
    clear fc
    obtain ⟨x0, x1, y0, y1, y2, y3, y4, y5, y6, y7⟩ := BX.out _ _ _ _ s6
    have K7 := Lib.hid (show Calls Tryz.prog 18 #[ptrV a.d, .agg #[.int .i64 4, .int .i64 0, .int .u64 80, .int .i64 0, .int .i64 1, .int .u64 1, .int .i64 0, .int .i64 3]] _ _ from subD_o s6 HO6.out.I rB ⟨rfl, rfl, rfl, rfl⟩ (wf_small (by decide) (by decide)) (by decide) (by decide) (TW.out _ _ _ _ _ _ _ _ _ _ trivial HO6.out).1 (TW.out _ _ _ _ _ _ _ _ _ _ trivial HO6.out).2 (HO6.out.exists_ (i := 1) (by omega) (by decide) (by decide)))
    clear x0 x1 y0 y1 y2 y3 y4 y5 y6 y7
    obtain ⟨x0, x1, y0, y1, y2, y3, y4, y5, y6, y7⟩ := BX.out _ _ _ _ s6
    clear s6
    go_wp2_with fail
    refine K7.out.mono ?_
    rintro e w' ⟨rfl, bq, s7⟩
    clear K7
    clear f0 f1 f2
    clear x0 x1 y0 y1 y2 y3 y4 y5 y6 y7
    have K8 := Lib.hid (finW (no := 0) (stt := 0) s7 HO6.out.I false (wf_small (by decide) (by decide)))
    clear s7
    go_wp2_with fail
    refine K8.out.mono ?_
    rintro e w' ⟨f, g', k, rfl, hP, hk, hI, s8⟩
    clear K8
    obtain rfl := (HO6.out.fin false ⟨by omega, by omega⟩ hP hk hI).1
    have O8 : OneF 5 2 1 (stG 4) rB 5 2 (D6.finD 0 g' k false) 1 1 0 true true false 0 [] := (HO6.out.fin false ⟨by omega, by omega⟩ hP hk hI).2
    obtain ⟨D8, hD⟩ : ∃ D, D6.finD 0 g' k false = D := ⟨_, rfl⟩
    rw [hD] at O8 s8
    clear hD
    have HO8 := Lib.hid O8
    clear O8
    clear hP hk hI
    have K9 := Lib.hid (reapW s8 HO8.out.I)
    clear s8
    go_wp2_with fail
    refine K9.out.mono ?_
    rintro e w' ⟨d, f, g', k, q', st', rfl, hP, hk, hI, hK, s9⟩
    clear K9
    obtain ⟨rfl, hreq, -⟩ := HO8.out.reap hP hk hI hK
    rw [if_pos rfl, hreq, show rB.id = 4 from rfl]
    have O9 : OneF 5 2 1 (stG 4) rB 5 2 (D8.rpD 0 g' k d.st q' st') 1 1 1 true true false 0 [] := (HO8.out.reap hP hk hI hK).2.2
    obtain ⟨D9, hD⟩ : ∃ D, D8.rpD 0 g' k d.st q' st' = D := ⟨_, rfl⟩
    rw [hD] at O9 s9
    clear hD
    have HO9 := Lib.hid O9
    clear O9
    clear hP hk hI hK hreq
    obtain ⟨x0, x1, y0, y1, y2, y3, y4, y5, y6, y7⟩ := BX.out _ _ _ _ s9
    obtain ⟨D9, hP9⟩ := HO9.out.again (i := 1) rfl (by omega) rfl rfl (by decide) (by decide) ⟨rfl, rfl, rfl⟩ (by decide)
    have K10 := Lib.hid (show Calls Tryz.prog 18 #[ptrV a.d, .agg #[.int .i64 4, .int .i64 0, .int .u64 80, .int .i64 0, .int .i64 1, .int .u64 1, .int .i64 0, .int .i64 3]] _ _ from subD_o s9 HO9.out.I rB ⟨rfl, rfl, rfl, rfl⟩ (wf_small (by decide) (by decide)) (by decide) (by decide) (TW.out _ _ _ _ _ _ _ _ _ _ trivial HO9.out).1 (TW.out _ _ _ _ _ _ _ _ _ _ trivial HO9.out).2 hP9)
    clear x0 x1 y0 y1 y2 y3 y4 y5 y6 y7
    obtain ⟨x0, x1, y0, y1, y2, y3, y4, y5, y6, y7⟩ := BX.out _ _ _ _ s9
    clear s9
    go_wp2_with fail
    refine K10.out.mono ?_
    rintro e w' ⟨rfl, bq, s10⟩
    clear K10
    clear x0 x1 y0 y1 y2 y3 y4 y5 y6 y7
    go_wp2_with fail
    go_ret
    exact ⟨rfl, (s10.take 0).below⟩
  · as_aux_lemma =>
    have K1 := Lib.hid (startW s0 HO0.out.I)
    clear s0
    go_wp2_with fail
    refine K1.out.mono ?_
    rintro e w' ⟨B, d, ids, D1, rfl, -, -, hF, hI, e1, e2, e3, -, e5, s1⟩
    clear K1
    obtain rfl := (HO0.out.start hI hF e1 e2 e3 e5).1
    have O1 : OneF 5 2 1 (stG 4) rB 5 0 (D1) 1 0 0 false false false 0 [] := (HO0.out.start hI hF e1 e2 e3 e5).2
    have HO1 := Lib.hid O1
    clear O1
    clear hF hI e1 e2 e3 e5
    have K2 := Lib.hid (takeW s1 HO1.out.I)
    clear s1
    go_wp2_with fail
    refine K2.out.mono ?_
    rintro e w' ⟨D', no, f, d, rfl, hh, s2⟩
    clear K2
    obtain ⟨k, st', h1, h3, h4, rfl, h5, rfl, rfl, rfl⟩ : ∃ k st', D1.pst (D1.g.taken : Int) = some k ∧ KeepS 5 D1.st st' ∧ ((D1.rq k).vo = true → st' = D1.st) ∧ D' = D1.tkD 0 ⟨D1.g.put, D1.g.taken + 1, D1.g.reaped, D1.g.D⟩ k st' ∧ DvI 5 2 1 D' ∧ no = (D1.g.taken : Int) ∧ d = D1.g.D D1.g.taken ∧ f = 0 := by
      rcases hh with ⟨e, -⟩ | ⟨-, h1, h2, h3, k, st', h4, h5, h6, h7, h8, h9⟩
      · rw [HO1.out.hput, HO1.out.htaken] at e; omega
      · exact ⟨k, st', h4, h6, h7, h8, h9, h1, h2, h3⟩
    have O2 : OneF 5 2 1 (stG 4) rB 5 0 (D1.tkD 0 ⟨D1.g.put, D1.g.taken + 1, D1.g.reaped, D1.g.D⟩ k st') 1 1 0 false false false 0 [] := HO1.out.take h1 h3 h5 h4
    obtain ⟨D2, hD⟩ : ∃ D, D1.tkD 0 ⟨D1.g.put, D1.g.taken + 1, D1.g.reaped, D1.g.D⟩ k st' = D := ⟨_, rfl⟩
    rw [hD] at O2 s2
    clear hD
    have HO2 := Lib.hid O2
    clear O2
    clear h1 h3 h4 h5 hh
    rw [show (D1.g.taken : Int) = 0 from by rw [HO1.out.htaken]; rfl]
    generalize D1.g.D D1.g.taken = d'
    unfold ri.Dsc.v
    have K3 := Lib.hid (finW (no := 0) (stt := b) s2 HO2.out.I true (wf_small (by decide) (by decide)))
    clear s2
    go_wp2_with fail
    refine K3.out.mono ?_
    rintro e w' ⟨f, g', k, rfl, hP, hk, hI, s3⟩
    clear K3
    obtain rfl := (HO2.out.fin true ⟨by omega, by omega⟩ hP hk hI).1
    have O3 : OneF 5 2 1 (stG 4) rB 5 0 (D2.finD 0 g' k true) 1 1 0 true false true b [] := (HO2.out.fin true ⟨by omega, by omega⟩ hP hk hI).2
    obtain ⟨D3, hD⟩ : ∃ D, D2.finD 0 g' k true = D := ⟨_, rfl⟩
    rw [hD] at O3 s3
    clear hD
    have HO3 := Lib.hid O3
    clear O3
    clear hP hk hI
    have K4 := Lib.hid (reapW s3 HO3.out.I)
    clear s3
    go_wp2_with fail
    refine K4.out.mono ?_
    rintro e w' ⟨d, f, g', k, q', st', rfl, hP, hk, hI, hK, s4⟩
    clear K4
    obtain ⟨rfl, hreq, -⟩ := HO3.out.reap hP hk hI hK
    rw [if_pos rfl, hreq, show rB.id = 4 from rfl]
    have O4 : OneF 5 2 1 (stG 4) rB 5 0 (D3.rpD 0 g' k d.st q' st') 1 1 1 true true true b [⟨4, 2, 2⟩] := (HO3.out.reap hP hk hI hK).2.2
    obtain ⟨D4, hD⟩ : ∃ D, D3.rpD 0 g' k d.st q' st' = D := ⟨_, rfl⟩
    rw [hD] at O4 s4
    clear hD
    have HO4 := Lib.hid O4
    clear O4
    clear hP hk hI hK hreq
    have K5 := Lib.hid (canW (id := 4) s4 HO4.out.I (wf_small (by decide) (by decide)))
    clear s4
    go_wp2_with fail
    refine K5.out.mono ?_
    rintro e w' ⟨rfl, k, q', st', -, -, -, s5⟩
    clear K5
    rw [HO4.out.can6 4]
    rw [HO4.out.can_same] at s5
    obtain ⟨x0, x1, y0, y1, y2, y3, y4, y5, y6, y7⟩ := BX.out _ _ _ _ s5
    have K6 := Lib.hid (show Calls Tryz.prog 40 #[ptrV a.p, .agg #[.int .i64 1, .int .u64 1]] _ _ from po.owner_o s5 1 rfl HO4.out.I.c.pok (TW.out _ _ _ _ _ _ _ _ _ _ trivial HO4.out).2)
    clear x0 x1 y0 y1 y2 y3 y4 y5 y6 y7
    obtain ⟨x0, x1, y0, y1, y2, y3, y4, y5, y6, y7⟩ := BX.out _ _ _ _ s5
    clear s5
    go_wp2_with fail
    refine K6.out.mono ?_
    rintro e w' ⟨rfl, s6⟩
    clear K6
    rw [show (D4.st 1).owner = 1 from HO4.out.task (i := 1) (by omega) (by decide)]
    replace s6 : St w None w' (DvL a 5 2 _ D4 ++ _) := s6
    clear x0 x1 y0 y1 y2 y3 y4 y5 y6 y7
    have K7 := Lib.hid (goW (u := 2) s6 HO4.out.I (by omega))
    clear s6
    go_wp2_with fail
    refine K7.out.mono ?_
    rintro e w' ⟨B, m, d, o, D7, rfl, ho, hl, -, hI, hG, -, -, s7⟩
    clear K7
    obtain ⟨hg, rfl, -⟩ := HO4.out.go (by omega) (by omega) ho hI hG
    rw [hg]
    obtain rfl : m = 1 := hl.symm
    have O7 : OneF 5 2 1 (stG 4) rB 5 2 (D7) 1 1 1 true true true b [] := (HO4.out.go (by omega) (by omega) ho hI hG).2.2
    have HO7 := Lib.hid O7
    clear O7
    clear ho hl hI hG hg
    obtain ⟨fb, fo, rfl, fc⟩ := (dv_lis s7 3 rfl).reads.2.resolve_left (by omega)
    have f0 : w'.cell? ⟨fb, fo, none⟩ = some (.int .i64 4) := fc 0 _ rfl
    have f1 : w'.cell? ⟨fb, fo + 1, none⟩ = some (.int .i64 2) := fc 1 _ rfl
    have f2 : w'.cell? ⟨fb, fo + 2, none⟩ = some (.int .i64 2) := fc 2 _ rfl
    clear fc
    obtain ⟨x0, x1, y0, y1, y2, y3, y4, y5, y6, y7⟩ := BX.out _ _ _ _ s7
    obtain ⟨D9, hP9⟩ := HO7.out.again (i := 1) rfl (by omega) rfl rfl (by decide) (by decide) ⟨rfl, rfl, rfl⟩ (by decide)
    have K8 := Lib.hid (show Calls Tryz.prog 18 #[ptrV a.d, .agg #[.int .i64 4, .int .i64 0, .int .u64 80, .int .i64 0, .int .i64 1, .int .u64 1, .int .i64 0, .int .i64 3]] _ _ from subD_o s7 HO7.out.I rB ⟨rfl, rfl, rfl, rfl⟩ (wf_small (by decide) (by decide)) (by decide) (by decide) (TW.out _ _ _ _ _ _ _ _ _ _ trivial HO7.out).1 (TW.out _ _ _ _ _ _ _ _ _ _ trivial HO7.out).2 hP9)
    clear x0 x1 y0 y1 y2 y3 y4 y5 y6 y7
    obtain ⟨x0, x1, y0, y1, y2, y3, y4, y5, y6, y7⟩ := BX.out _ _ _ _ s7
    clear s7
    go_wp2_with fail
    refine K8.out.mono ?_
    rintro e w' ⟨rfl, bq, s8⟩
    clear K8
    clear f0 f1 f2
    clear x0 x1 y0 y1 y2 y3 y4 y5 y6 y7
    go_wp2_with fail
    go_ret
    exact ⟨rfl, (s8.take 0).below⟩

set_option maxRecDepth 100000 in
theorem lifted (os : Os) (started : os.Started) (H : Type) (enc : TypeId × Value → H) :
    ReturnsInHanded {} Tryz.checked os 8 .any (Rows.ioqBadSpec.pre6 enc Tryz.prog Tryz.f8 Rows.ioqBadRow.domain false) (Rows.ioqBadSpec.post enc Tryz.prog Tryz.f8 false true false false) := by
  refine law_lifted (C := Tryz.checked) (tb := 4) own started (by kernel_rfl) Tryz.func8
    (ChangeSpec.witness6 (enc := enc) (C := Tryz.checked) false ⟨#[], #[.int .u8 0, .int .u8 0], []⟩ 8 (by kernel_rfl) (by kernel_rfl) (by kernel_rfl) (by kernel_rfl)) laid (by kernel_rfl) (by kernel_rfl) Tryz.underlying4 rfl ?_
  intro W base args ds ps hval0 hA0 hlt
  have hval : ∀ (j : Nat) t v, Tryz.f8.params[j]? = some t → args[j]? = some v → Value.okWide Tryz.prog W .any base t v := hval0
  have hA : DataW.TrodAll enc Tryz.prog W 0 (fun _ => true) true Tryz.f8.params.toList args.toList ds ps := hA0
  clear hA0 hval0
  rw [Tryz.params8] at hA hval
  obtain ⟨v0, vs0, d0, ds0, p0, q0, hargs, rfl, rfl, h0, r0⟩ := trodAll_cons hA
  obtain ⟨v1, vs1, d1, ds1, p1, q1, rfl, rfl, rfl, h1, r1⟩ := trodAll_cons r0
  obtain ⟨rfl, rfl, rfl⟩ := trodAll_nil r1
  obtain rfl : args = #[v0, v1] := by cases args; simp_all
  obtain ⟨a0, rfl, rfl, rfl, w0⟩ := open_int Tryz.underlying5 (hval 0 5 v0 rfl rfl) h0
  obtain ⟨a1, rfl, rfl, rfl, w1⟩ := open_int Tryz.underlying5 (hval 1 5 v1 rfl rfl) h1
  refine ⟨⟨rfl, rfl, rfl⟩, ?_⟩
  exact walk a0 a1 W (bounds_u8 w0) (bounds_u8 w1)

theorem over : Rows.ioqBadRow.holds Tryz.pinned (OpenSpec.ofChange Rows.ioqBadSpec) :=
  OpenClaim.holds_of_wide 8 Tryz.f8 rfl rfl rfl rfl rfl rfl rfl ⟨rfl, rfl, rfl, rfl, rfl⟩ rfl rfl rfl rfl rfl (by kernel_rfl) Tryz.func8 (by kernel_rfl)
    (of_decide_eq_true (by kernel_rfl)) (by unfold Func.isWrapper; first | (rw [if_pos (by decide +kernel)]; kernel_rfl) | (rw [if_neg (by decide +kernel)]; exact ⟨rfl, rfl⟩))
    (fun os started H enc _ => lifted os started H enc)
theorem proved : Rows.IoqBadSaid := over
#print axioms proved
end Go.Proofs.YtcbhhajcgfiigaaGreat.ioqBad
