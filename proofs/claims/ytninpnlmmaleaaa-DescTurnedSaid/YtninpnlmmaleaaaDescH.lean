/- Layer 9: a descriptor's bytes, the document's. -/
import Derived.Test.YtninpnlmmaleaaaDescG
import Derived.Deep.DeepCutAuto
namespace Go.Proofs.Ytninpnlmmaleaaa
open Go.RowKit
set_option linter.unusedVariables false
set_option maxRecDepth 100000
set_option maxHeartbeats 1000000
theorem bys_app (xs ys : List Int) : bys (xs ++ ys) = bys xs ++ bys ys := by simp [bys]
def Dsc.p2 (d : Dsc) : List Int := [d.marks, d.st]
def Dsc.p6 (d : Dsc) : List Int := (d.p2 ++ be d.req 2) ++ be d.slot 2
def Dsc.p12 (d : Dsc) : List Int := (d.p6 ++ be d.gen 4) ++ be d.frm 2
def Dsc.p17 (d : Dsc) : List Int := (d.p12 ++ be d.len 4) ++ [0]
theorem p17_pre {d : Dsc} (h : d.may) : d.p17 = d.preL := by
  have hm := marks_bd h
  obtain ⟨h1, h2, h3, h4, h5, h6, h7, _⟩ := h
  show [d.marks, d.st, d.req / 256 ^ 1 % 256, d.req / 256 ^ 0 % 256, d.slot / 256 ^ 1 % 256, d.slot / 256 ^ 0 % 256, d.gen / 256 ^ 3 % 256, d.gen / 256 ^ 2 % 256, d.gen / 256 ^ 1 % 256, d.gen / 256 ^ 0 % 256, d.frm / 256 ^ 1 % 256, d.frm / 256 ^ 0 % 256, d.len / 256 ^ 3 % 256, d.len / 256 ^ 2 % 256, d.len / 256 ^ 1 % 256, d.len / 256 ^ 0 % 256, (0 : Int)] = [d.marks, d.st, d.req / 256, d.req % 256, d.slot / 256, d.slot % 256, d.gen / 16777216, d.gen / 65536 % 256, d.gen / 256 % 256, d.gen % 256, d.frm / 256, d.frm % 256, 0, d.len / 65536, d.len / 256 % 256, d.len % 256, 0]
  generalize d.marks = m at *
  simp only [List.cons.injEq, and_true, true_and]
  omega
section
variable {w0 w : World} {S0 : Nat → Prop} {L : List Res}
theorem rbytes_yes (D : Dsc) (hd : D.may) (H : St w0 S0 w L) : Calls Try.prog 14 #[D.v] w fun e w' => ∃ B cap, e = .returned (.slice B 20 cap) ∧ St w0 S0 w' (L ++ [LisR 5 1 (.slice B 20 cap) 20 (bys D.fullL)]) := by
  have HH := Lib.hid H
  clear H
  obtain ⟨i0, hi, hz0, hz1, hz2⟩ := info_parts Try.infoU8
  have M := Lib.hid (fun (w : World) => rmay_c D w hd.fits true (decide_eq_true hd).symm)
  have hsb : 0 ≤ D.sum ∧ D.sum < 16777216 := chk_bd D.pre 17
  have HD := Lib.hid hd
  have HM := Lib.hid (marks_bd hd)
  obtain ⟨h1, h2, h3, h4, h5, h6, h7, -⟩ := hd
  have wreq : IntKind.u64.wrap D.req = D.req := IntWalk.u64_in _ ⟨by omega, by omega⟩
  have wslot : IntKind.u64.wrap D.slot = D.slot := IntWalk.u64_in _ ⟨by omega, by omega⟩
  have wfrm : IntKind.u64.wrap D.frm = D.frm := IntWalk.u64_in _ ⟨by omega, by omega⟩
  have wlen : IntKind.u64.wrap D.len = D.len := IntWalk.u64_in _ ⟨by omega, by omega⟩
  unfold Dsc.v at M ⊢
  go_enter Try.func14, Try.ntmps14
  go_wp2_with fail
  have s0 : St w None _ [_] := (St.begin w).box 26 D.cells
  refine (M.out _).mono ?_
  rintro e w1 ⟨rfl, hb⟩
  have s1 := s0.stay hb
  clear s0 hb M
  generalize w.heap.size = g at *
  obtain ⟨c0, c1, c2, c3, c4, c5, c6, c7, c8⟩ := dsc_cells D w1 g (s1.blk 0 rfl)
  have S1 := Lib.hid s1
  clear s1
  go_upto_if 11 with (fail)
  go_cut [3] (fun s wx => wx = w1 ∧ s = .int .i64 (D.op + if D.dv then 16 else 0))
  case first =>
    go_wp2_with fail
    all_goals
      go_meet
      exact ⟨rfl, by simp [*]⟩
  case rest =>
    obtain ⟨hw2, rfl⟩ := hcut
    rw [hw2] at *
    clear hw2
    have hxb : 0 ≤ (D.op + if D.dv = true then 16 else 0) ∧ (D.op + if D.dv = true then 16 else 0) ≤ 31 := by split <;> omega
    generalize hx : (D.op + if D.dv = true then 16 else 0) = x at *
    have HX := Lib.hid hx
    clear hx
    go_upto_if 15 with (fail)
    go_cut [3] (fun s wx => wx = w1 ∧ s = .int .i64 D.marks)
    case first =>
      go_wp2_with fail
      all_goals
        go_meet
        exact ⟨rfl, by simp [Dsc.marks, HX.out, *]⟩
    case rest =>
      obtain ⟨hw2, rfl⟩ := hcut
      rw [hw2] at *
      clear HX hw2
      have hmm := HM.out
      generalize hm : D.marks = m at *
      have wm : IntKind.u8.wrap m = m := IntWalk.u8_in _ ⟨by omega, by omega⟩
      have wst : IntKind.u8.wrap D.st = D.st := IntWalk.u8_in _ ⟨by omega, by omega⟩
      go_upto_region 9 with (fail)
      have s2 : St w None (w1.alloc (.cells #[.int .u8 m, .int .u8 D.st] 5)) [BlkR g 26 D.cells, LisR 5 1 (.slice (some ⟨w1.heap.size, 0, none⟩) 2 2) 2 (bys D.p2)] := by
        have := S1.out.lis_new 5 1 2 #[.int .u8 m, .int .u8 D.st] rfl (by unfold maxLen; omega)
        unfold Dsc.p2
        rw [hm]
        exact this
      generalize w1.heap.size = ob at *
      generalize w1.alloc (.cells #[.int .u8 m, .int .u8 D.st] 5) = w2 at *
      obtain ⟨c0, c1, c2, c3, c4, c5, c6, c7, c8⟩ := dsc_cells D _ g (s2.blk 0 rfl)
      have Q0 := Lib.hid s2.drew
      clear s2 S1
      go_cut [4] (fun o wx => ∃ B c, o = .slice B 6 c ∧ St w None wx [BlkR g 26 D.cells, LisR 5 1 (.slice B 6 c) 6 (bys D.p6)])
      case first =>
        go_region_held3 (fun W => W.cell? ⟨g, 0, none⟩ = some (.int .i64 D.op) ∧ W.cell? ⟨g, 1, none⟩ = some (.int .i64 D.req) ∧ W.cell? ⟨g, 2, none⟩ = some (.int .i64 D.slot) ∧ W.cell? ⟨g, 3, none⟩ = some (.int .u64 D.gen) ∧ W.cell? ⟨g, 4, none⟩ = some (.int .i64 D.frm) ∧ W.cell? ⟨g, 5, none⟩ = some (.int .i64 D.len) ∧ W.cell? ⟨g, 6, none⟩ = some (.bool D.dv) ∧ W.cell? ⟨g, 7, none⟩ = some (.bool D.dn) ∧ W.cell? ⟨g, 8, none⟩ = some (.int .i64 D.st)) (go_keep)
          (first
            | (go_at_call_of 22 (D.req); first
                | (refine (big_c D.req 2 (by omega) (by omega) Q2.out).mono ?_; rintro e wb ⟨g1, rfl, t⟩; have qwb := dsc_cells D wb g (t.blk 0 rfl); have Q12 := Lib.hid (t.swap23); clear t Q2)
                | (refine (big_c D.req 2 (by omega) (by omega) Q0.out).mono ?_; rintro e wa ⟨g1, rfl, t⟩; have qwa := dsc_cells D wa g (t.blk 0 rfl); have Q1 := Lib.hid t; clear t Q0))
            | (go_at_call_of 22 (D.slot); first
                | (refine (big_c D.slot 2 (by omega) (by omega) QA.out).mono ?_; rintro e wd ⟨g2, rfl, t⟩; have qwd := dsc_cells D wd g (t.blk 0 rfl); have QAB := Lib.hid t; clear t QA)
                | (refine (big_c D.slot 2 (by omega) (by omega) Q1.out).mono ?_; rintro e wb ⟨g2, rfl, t⟩; have qwb := dsc_cells D wb g (t.blk 0 rfl); have Q12 := Lib.hid t; clear t Q1)
                | (refine (big_c D.slot 2 (by omega) (by omega) Q0.out).mono ?_; rintro e wa ⟨g2, rfl, t⟩; have qwa := dsc_cells D wa g (t.blk 0 rfl); have Q2 := Lib.hid t; clear t Q0))
            | (refine step_lis (by rfl) _ _ _ (by rfl) 5 i0 (.int .u8 0) 1 1 Try.underlying28 hi hz0 hz1 hz2 (by rfl) (by omega) (.slice (some ⟨ob, 0, none⟩) 2 2) 2 (bys D.p2) (by rfl) (Q12.out.lis 1 rfl) _ 2 2 (bys (be D.req 2)) (by rfl) (Q12.out.lis 2 rfl).reads (bys_one _) (by unfold maxLen; omega) (by omega) ?_; intro B1 c1 wc hl hg hat; have t := Q12.out.lis_put 1 rfl hl hg hat; clear hl hg hat; have qwc := dsc_cells D wc g (t.blk 0 rfl); rw [← bys_app] at t; have QAB := Lib.hid t; clear t Q12)
            | (refine step_lis (by rfl) _ _ _ (by rfl) 5 i0 (.int .u8 0) 1 1 Try.underlying28 hi hz0 hz1 hz2 (by rfl) (by omega) (.slice (some ⟨ob, 0, none⟩) 2 2) 2 (bys D.p2) (by rfl) (Q1.out.lis 1 rfl) _ 2 2 (bys (be D.req 2)) (by rfl) (Q1.out.lis 2 rfl).reads (bys_one _) (by unfold maxLen; omega) (by omega) ?_; intro B1 c1 wc hl hg hat; have t := Q1.out.lis_put 1 rfl hl hg hat; clear hl hg hat; have qwc := dsc_cells D wc g (t.blk 0 rfl); rw [← bys_app] at t; have QA := Lib.hid t; clear t Q1)
            | (refine step_lis (by rfl) _ _ _ (by rfl) 5 i0 (.int .u8 0) 1 1 Try.underlying28 hi hz0 hz1 hz2 (by rfl) (by omega) (.slice B1 4 c1) 4 (bys (D.p2 ++ be D.req 2)) (by rfl) (QAB.out.lis 1 rfl) _ 2 2 (bys (be D.slot 2)) (by rfl) (QAB.out.lis 3 rfl).reads (bys_one _) (by unfold maxLen; omega) (by omega) ?_; intro B2 c2 we hl hg hat; have t := QAB.out.lis_put 1 rfl hl hg hat; clear hl hg hat; have qwe := dsc_cells D we g (t.blk 0 rfl); rw [← bys_app] at t; have QF := Lib.hid t; clear t QAB))
        all_goals
          go_wp2_with fail
          go_meet
          exact ⟨B2, c2, rfl, QF.out.take 2⟩

      case rest =>
        obtain ⟨B0, c0', rfl, s3⟩ := hcut
        go_upto_region 10 with (fail)
        obtain ⟨c0, c1, c2, c3, c4, c5, c6, c7, c8⟩ := dsc_cells D _ g (s3.blk 0 rfl)
        have Q0 := Lib.hid s3.drew
        clear s3
        go_cut [4] (fun o wx => ∃ B c, o = .slice B 12 c ∧ St w None wx [BlkR g 26 D.cells, LisR 5 1 (.slice B 12 c) 12 (bys D.p12)])
        case first =>
          go_region_held3 (fun W => W.cell? ⟨g, 0, none⟩ = some (.int .i64 D.op) ∧ W.cell? ⟨g, 1, none⟩ = some (.int .i64 D.req) ∧ W.cell? ⟨g, 2, none⟩ = some (.int .i64 D.slot) ∧ W.cell? ⟨g, 3, none⟩ = some (.int .u64 D.gen) ∧ W.cell? ⟨g, 4, none⟩ = some (.int .i64 D.frm) ∧ W.cell? ⟨g, 5, none⟩ = some (.int .i64 D.len) ∧ W.cell? ⟨g, 6, none⟩ = some (.bool D.dv) ∧ W.cell? ⟨g, 7, none⟩ = some (.bool D.dn) ∧ W.cell? ⟨g, 8, none⟩ = some (.int .i64 D.st)) (go_keep)
            (first
              | (go_at_call_of 22 (D.gen); first
                  | (refine (big_c D.gen 4 (by omega) (by omega) Q2.out).mono ?_; rintro e wb ⟨g1, rfl, t⟩; have qwb := dsc_cells D wb g (t.blk 0 rfl); have Q12 := Lib.hid (t.swap23); clear t Q2)
                  | (refine (big_c D.gen 4 (by omega) (by omega) Q0.out).mono ?_; rintro e wa ⟨g1, rfl, t⟩; have qwa := dsc_cells D wa g (t.blk 0 rfl); have Q1 := Lib.hid t; clear t Q0))
              | (go_at_call_of 22 (D.frm); first
                  | (refine (big_c D.frm 2 (by omega) (by omega) QA.out).mono ?_; rintro e wd ⟨g2, rfl, t⟩; have qwd := dsc_cells D wd g (t.blk 0 rfl); have QAB := Lib.hid t; clear t QA)
                  | (refine (big_c D.frm 2 (by omega) (by omega) Q1.out).mono ?_; rintro e wb ⟨g2, rfl, t⟩; have qwb := dsc_cells D wb g (t.blk 0 rfl); have Q12 := Lib.hid t; clear t Q1)
                  | (refine (big_c D.frm 2 (by omega) (by omega) Q0.out).mono ?_; rintro e wa ⟨g2, rfl, t⟩; have qwa := dsc_cells D wa g (t.blk 0 rfl); have Q2 := Lib.hid t; clear t Q0))
              | (refine step_lis (by rfl) _ _ _ (by rfl) 5 i0 (.int .u8 0) 1 1 Try.underlying28 hi hz0 hz1 hz2 (by rfl) (by omega) (.slice (B0) 6 c0') 6 (bys D.p6) (by rfl) (Q12.out.lis 1 rfl) _ 4 4 (bys (be D.gen 4)) (by rfl) (Q12.out.lis 2 rfl).reads (bys_one _) (by unfold maxLen; omega) (by omega) ?_; intro B1 c1 wc hl hg hat; have t := Q12.out.lis_put 1 rfl hl hg hat; clear hl hg hat; have qwc := dsc_cells D wc g (t.blk 0 rfl); rw [← bys_app] at t; have QAB := Lib.hid t; clear t Q12)
              | (refine step_lis (by rfl) _ _ _ (by rfl) 5 i0 (.int .u8 0) 1 1 Try.underlying28 hi hz0 hz1 hz2 (by rfl) (by omega) (.slice (B0) 6 c0') 6 (bys D.p6) (by rfl) (Q1.out.lis 1 rfl) _ 4 4 (bys (be D.gen 4)) (by rfl) (Q1.out.lis 2 rfl).reads (bys_one _) (by unfold maxLen; omega) (by omega) ?_; intro B1 c1 wc hl hg hat; have t := Q1.out.lis_put 1 rfl hl hg hat; clear hl hg hat; have qwc := dsc_cells D wc g (t.blk 0 rfl); rw [← bys_app] at t; have QA := Lib.hid t; clear t Q1)
              | (refine step_lis (by rfl) _ _ _ (by rfl) 5 i0 (.int .u8 0) 1 1 Try.underlying28 hi hz0 hz1 hz2 (by rfl) (by omega) (.slice B1 10 c1) 10 (bys (D.p6 ++ be D.gen 4)) (by rfl) (QAB.out.lis 1 rfl) _ 2 2 (bys (be D.frm 2)) (by rfl) (QAB.out.lis 3 rfl).reads (bys_one _) (by unfold maxLen; omega) (by omega) ?_; intro B2 c2 we hl hg hat; have t := QAB.out.lis_put 1 rfl hl hg hat; clear hl hg hat; have qwe := dsc_cells D we g (t.blk 0 rfl); rw [← bys_app] at t; have QF := Lib.hid t; clear t QAB))
          all_goals
            go_wp2_with fail
            go_meet
            exact ⟨B2, c2, rfl, QF.out.take 2⟩

        case rest =>
          obtain ⟨B3, c3', rfl, s4⟩ := hcut
          obtain ⟨c0, c1, c2, c3, c4, c5, c6, c7, c8⟩ := dsc_cells D _ g (s4.blk 0 rfl)
          have S4 := Lib.hid s4
          clear s4
          go_wp2_with fail
          refine (big_c D.len 4 (by omega) (by omega) S4.out).mono ?_
          rintro e w5 ⟨g5, rfl, s5⟩
          have hl5 := s5.lis 1 rfl
          have hr5 := (s5.lis 2 rfl).reads
          go_wp2_with (first
            | (at_builtin; refine wpList_lis rfl (.tmp 47) (.tmp 51) 28 rfl 5 i0 (.int .u8 0) 1 1 Try.underlying28 hi hz0 hz1 hz2 rfl (by decide) _ _ _ rfl hl5 (some ⟨g5, 0, none⟩) 4 4 (bys (be D.len 4)) rfl hr5 (bys_one _) (by unfold maxLen; omega) (by omega) ?_; intro B6 c6 w6 hl6 hg6 hat6; have s6 := s5.lis_put 1 rfl hl6 hg6 hat6; rw [← bys_app] at s6; have s7 := s6.alloc (.cells #[.int .u8 0] 5); have hl7 := s7.lis 1 rfl; have hr7 := rds_box w6 5 (.int .u8 0); clear hl6 hg6 hat6)
            | (at_builtin; refine wpList_lis rfl (.tmp 52) (.tmp 53) 28 rfl 5 i0 (.int .u8 0) 1 1 Try.underlying28 hi hz0 hz1 hz2 rfl (by decide) _ _ _ rfl hl7 (some ⟨w6.heap.size, 0, none⟩) 1 1 [.int .u8 0] rfl hr7 (by simp [Value.oneCell']) (by unfold maxLen; omega) (by omega) ?_; intro B8 c8 w8 hl8 hg8 hat8; have s8 := s7.lis_put 1 rfl hl8 hg8 hat8; rw [← bys_snoc] at s8; clear hl8 hg8 hat8 hl7 hr7))
          have hp17 : (be D.len 4).length = 4 := be_len _ _
          have s8b := s8
          rw [show (D.p12 ++ be D.len 4) ++ [0] = D.preL from p17_pre HD.out] at s8b
          have s9 : St w None w8 [_, LisR 5 1 (.slice B8 17 c8) 17 (bys D.preL), _] := s8b
          clear s8b
          have rd := rd_bys (s9.lis 1 rfl)
          have ck : chk (fun j => (D.preL).getD j 0) 17 = D.sum := chk_like (preL_at D)
          have CK := Lib.hid (rcheck_c (n := 17) (cap := c8) (f := fun j => (D.preL).getD j 0) rd (fun j hj => by rw [preL_at D j hj]; exact pre_bd HD.out j) (by omega))
          rw [ck] at CK
          have S9 := Lib.hid s9
          clear ck rd s9 s8 s7 s6 s5 hl5 hr5
          have wsum : IntKind.u64.wrap D.sum = D.sum := IntWalk.u64_in _ ⟨by omega, by omega⟩
          refine CK.out.mono ?_
          rintro e wx ⟨rfl, rfl⟩
          clear CK
          go_wp2_with fail
          refine (big_c D.sum 3 (by omega) (by omega) S9.out).mono ?_
          rintro e w10 ⟨g10, rfl, s10⟩
          have hl10 := s10.lis 1 rfl
          have hr10 := (s10.lis 3 rfl).reads
          go_wp2_with (at_builtin; refine wpList_lis rfl (.tmp 55) (.tmp 59) 28 rfl 5 i0 (.int .u8 0) 1 1 Try.underlying28 hi hz0 hz1 hz2 rfl (by decide) _ _ _ rfl hl10 (some ⟨g10, 0, none⟩) 3 3 (bys (be D.sum 3)) rfl hr10 (bys_one _) (by unfold maxLen; omega) (by omega) ?_; intro B11 c11 w11 hl11 hg11 hat11; have s11 := s10.lis_put 1 rfl hl11 hg11 hat11; clear hl11 hg11 hat11 hl10 hr10)
          go_ret
          rw [← bys_app, show D.preL ++ be D.sum 3 = D.fullL from by rw [← full_be HD.out]; simp [beAll]] at s11
          obtain ⟨S', y1, y2, y3⟩ := ((s11.drop 0 (by simp)).take 1).made
          exact ⟨B11, c11, rfl, HH.out.more y3 y1 y2⟩
end
end Go.Proofs.Ytninpnlmmaleaaa
