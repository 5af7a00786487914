/-
  For every two descriptors and every two bytes DescTurned answers true, and changes nothing: with any one byte turned a descriptor's bytes are none's; two have the same bytes just if they are the same. No condition.
-/
import Derived.Test.YtninpnlmmaleaaaRows
import Derived.Test.YtninpnlmmaleaaaFr
import Derived.Test.YtninpnlmmaleaaaDescU
import Derived.Test.YtninpnlmmaleaaaOpen
import Derived.Deep.RegionHeld3
import Derived.Deep.DeepCutAuto
import Derived.Laws.BitsAllLaws
namespace Go.Proofs.Ytninpnlmmaleaaa.descTurned
open Go.ChangeShapes Go.WideShapes Go.ChangeAt Go.RowKit
set_option linter.unusedVariables false
theorem own : ownKnob Try.prog.godebug = none := by kernel_rfl
theorem laid : laidOutB Try.prog = true := by kernel_rfl
set_option maxRecDepth 100000
set_option maxHeartbeats 1000000
theorem xor_fact {y b z : Int} (hy : 0 ≤ y ∧ y < 256) (hb : 0 ≤ b ∧ b < 256) (hz : bits BinOp.xor IntKind.u8 y b = z) : (0 ≤ z ∧ z < 256) ∧ (z = y ↔ b = 0) := by
  obtain ⟨m, rfl⟩ := Int.eq_ofNat_of_zero_le hy.1
  obtain ⟨n, rfl⟩ := Int.eq_ofNat_of_zero_le hb.1
  rw [u8_xor_nat m n (by omega) (by omega)] at hz
  have h1 : m ^^^ n < 2 ^ 8 := Nat.xor_lt_two_pow (by omega) (by omega)
  refine ⟨by omega, fun h => ?_, fun h => ?_⟩
  · have e : m ^^^ n = m := by omega
    have : n = 0 := by
      have := congrArg (m ^^^ ·) e
      simp only [← Nat.xor_assoc, Nat.xor_self, Nat.zero_xor] at this
      exact this
    omega
  · have : n = 0 := by omega
    subst this
    rw [← hz, Nat.xor_zero]
theorem walk (D O : Dsc) (hfD : D.fits) (hfO : O.fits) (at' by' : Int) (ba : 0 ≤ at' ∧ at' ≤ 255) (bb : 0 ≤ by' ∧ by' ≤ 255) (w : World) : Calls Try.prog 5 #[D.v, O.v, .agg #[.int .u8 at', .int .u8 by']] w fun r w' => r = .returned (.bool true) ∧ Below w.heap.size w w' := by
  unfold Dsc.v
  have RD := Lib.hid (fun b hb W => rmay_c D W hfD b hb)
  have RO := Lib.hid (fun b hb W => rmay_c O W hfO b hb)
  unfold Dsc.v at RD RO
  by_cases hm : D.may
  · by_cases ho : O.may
    · have hob := Int.emod_nonneg at' (show (20 : Int) ≠ 0 by omega)
      have hob2 := Int.emod_lt_of_pos at' (show (0 : Int) < 20 by omega)
      obtain ⟨i, hi⟩ : ∃ i : Nat, at' % 20 = (i : Int) := ⟨(at' % 20).toNat, by omega⟩
      have hi20 : i < 20 := by omega
      go_enter Try.func5, Try.ntmps5
      go_wp2_with fail
      have s0 : St w None _ [_, _, _] := (St.begin w).box3 26 26 38 D.cells O.cells #[.int .u8 at', .int .u8 by']
      refine (looks (awake_any _) s0).mono ?_
      rintro e w1 ⟨rfl, s1⟩
      clear s0
      generalize w.heap.size = g at *
      have t1 := (s1.blk 2 rfl).two
      obtain ⟨t0, t1⟩ := t1
      obtain ⟨c0, c1, c2, c3, c4, c5, c6, c7, c8⟩ := dsc_cells D w1 g (s1.blk 0 rfl)
      obtain ⟨x0, x1, x2, x3, x4, x5, x6, x7, x8⟩ := dsc_cells O w1 (g + 1) (s1.blk 1 rfl)
      go_wp2_with fail
      refine (looks (RD.out true (decide_eq_true hm).symm _) s1).mono ?_
      rintro e w2 ⟨rfl, s2⟩
      clear s1 c0 c1 c2 c3 c4 c5 c6 c7 c8 x0 x1 x2 x3 x4 x5 x6 x7 x8 t0 t1
      obtain ⟨x0, x1, x2, x3, x4, x5, x6, x7, x8⟩ := dsc_cells O w2 (g + 1) (s2.blk 1 rfl)
      go_wp2_with fail
      refine (looks (RO.out true (decide_eq_true ho).symm _) s2).mono ?_
      rintro e w3 ⟨rfl, s3⟩
      clear s2 x0 x1 x2 x3 x4 x5 x6 x7 x8
      obtain ⟨c0, c1, c2, c3, c4, c5, c6, c7, c8⟩ := dsc_cells D w3 g (s3.blk 0 rfl)
      have YD := Lib.hid (bytes_yes D hm s3)
      unfold Dsc.v at YD
      clear s3
      go_wp2_with fail
      refine YD.out.mono ?_
      rintro e w4 ⟨B, c, rfl, s4'⟩
      have s4 : St w None w4 [_, _, _, LisR 5 1 (.slice B 20 c) 20 (bys D.fullL)] := s4'
      clear s4' YD c0 c1 c2 c3 c4 c5 c6 c7 c8
      obtain ⟨c0, c1, c2, c3, c4, c5, c6, c7, c8⟩ := dsc_cells D w4 g (s4.blk 0 rfl)
      obtain ⟨x0, x1, x2, x3, x4, x5, x6, x7, x8⟩ := dsc_cells O w4 (g + 1) (s4.blk 1 rfl)
      have YO := Lib.hid (bytes_yes O ho s4.drew)
      unfold Dsc.v at YO
      have S4 := Lib.hid s4
      clear s4
      go_upto_region 8 with (fail)
      go_cut [40] (fun x wx => x = .bool false ∧ St w None wx [BlkR g 26 D.cells, BlkR (g + 1) 26 O.cells, BlkR (g + 2) 38 #[.int .u8 at', .int .u8 by'], LisR 5 1 (.slice B 20 c) 20 (bys D.fullL)])
      case first =>
        by_cases hDO : D = O
        · subst hDO
          have SM := Lib.hid (fun (w : World) (B2 : Option Addr) (c2 : Nat) (rd1 : Rd w B 20 (fun j => .int .u8 (D.fullL.getD j 0))) (rd2 : Rd w B2 20 (fun j => .int .u8 (D.fullL.getD j 0))) => same_eq (cap := c) (cap2 := c2) rd1 rd2 (by unfold maxLen; omega) true (decide_eq_true fun j hj => rfl).symm)
          go_region_held3 (fun W => (W.cell? ⟨g, 0, none⟩ = some (.int .i64 D.op) ∧ W.cell? ⟨g, 1, none⟩ = some (.int .i64 D.req) ∧ W.cell? ⟨g, 2, none⟩ = some (.int .i64 D.slot) ∧ W.cell? ⟨g, 3, none⟩ = some (.int .u64 D.gen) ∧ W.cell? ⟨g, 4, none⟩ = some (.int .i64 D.frm) ∧ W.cell? ⟨g, 5, none⟩ = some (.int .i64 D.len) ∧ W.cell? ⟨g, 6, none⟩ = some (.bool D.dv) ∧ W.cell? ⟨g, 7, none⟩ = some (.bool D.dn) ∧ W.cell? ⟨g, 8, none⟩ = some (.int .i64 D.st)) ∧ (W.cell? ⟨g + 1, 0, none⟩ = some (.int .i64 D.op) ∧ W.cell? ⟨g + 1, 1, none⟩ = some (.int .i64 D.req) ∧ W.cell? ⟨g + 1, 2, none⟩ = some (.int .i64 D.slot) ∧ W.cell? ⟨g + 1, 3, none⟩ = some (.int .u64 D.gen) ∧ W.cell? ⟨g + 1, 4, none⟩ = some (.int .i64 D.frm) ∧ W.cell? ⟨g + 1, 5, none⟩ = some (.int .i64 D.len) ∧ W.cell? ⟨g + 1, 6, none⟩ = some (.bool D.dv) ∧ W.cell? ⟨g + 1, 7, none⟩ = some (.bool D.dn) ∧ W.cell? ⟨g + 1, 8, none⟩ = some (.int .i64 D.st))) (go_keep)
            (first
              | (go_at_call 10; refine YO.out.mono ?_; rintro e w5 ⟨B2, cB2, rfl, t⟩; have q5 := And.intro (dsc_cells D w5 g (t.blk 0 rfl)) (dsc_cells D w5 (g + 1) (t.blk 1 rfl)); have Q1 := Lib.hid t; clear t YO)
              | (go_at_call 13; refine (looks (SM.out _ _ _ (rd_bys (Q1.out.lis 3 rfl)) (rd_bys (Q1.out.lis 4 rfl))) Q1.out).mono ?_; rintro e w6 ⟨rfl, t⟩; have q6 := And.intro (dsc_cells D w6 g (t.blk 0 rfl)) (dsc_cells D w6 (g + 1) (t.blk 1 rfl)); have Q2 := Lib.hid t; clear t Q1))
          all_goals
            go_wp2_with fail
            go_meet
            exact ⟨rfl, Q2.out.take 4⟩
        · have EQN := eq_no D O hDO
          have SM := Lib.hid (fun (w : World) (B2 : Option Addr) (c2 : Nat) (rd1 : Rd w B 20 (fun j => .int .u8 (D.fullL.getD j 0))) (rd2 : Rd w B2 20 (fun j => .int .u8 (O.fullL.getD j 0))) => same_eq (cap := c) (cap2 := c2) rd1 rd2 (by unfold maxLen; omega) false (decide_eq_false fun h => hDO (full_inj hm ho fun j hj => by rw [← fullL_at D j hj, ← fullL_at O j hj]; exact h j hj)).symm)
          go_region_held3 (fun W => (W.cell? ⟨g, 0, none⟩ = some (.int .i64 D.op) ∧ W.cell? ⟨g, 1, none⟩ = some (.int .i64 D.req) ∧ W.cell? ⟨g, 2, none⟩ = some (.int .i64 D.slot) ∧ W.cell? ⟨g, 3, none⟩ = some (.int .u64 D.gen) ∧ W.cell? ⟨g, 4, none⟩ = some (.int .i64 D.frm) ∧ W.cell? ⟨g, 5, none⟩ = some (.int .i64 D.len) ∧ W.cell? ⟨g, 6, none⟩ = some (.bool D.dv) ∧ W.cell? ⟨g, 7, none⟩ = some (.bool D.dn) ∧ W.cell? ⟨g, 8, none⟩ = some (.int .i64 D.st)) ∧ (W.cell? ⟨g + 1, 0, none⟩ = some (.int .i64 O.op) ∧ W.cell? ⟨g + 1, 1, none⟩ = some (.int .i64 O.req) ∧ W.cell? ⟨g + 1, 2, none⟩ = some (.int .i64 O.slot) ∧ W.cell? ⟨g + 1, 3, none⟩ = some (.int .u64 O.gen) ∧ W.cell? ⟨g + 1, 4, none⟩ = some (.int .i64 O.frm) ∧ W.cell? ⟨g + 1, 5, none⟩ = some (.int .i64 O.len) ∧ W.cell? ⟨g + 1, 6, none⟩ = some (.bool O.dv) ∧ W.cell? ⟨g + 1, 7, none⟩ = some (.bool O.dn) ∧ W.cell? ⟨g + 1, 8, none⟩ = some (.int .i64 O.st))) (go_keep)
            (first
              | (go_at_call 10; refine YO.out.mono ?_; rintro e w5 ⟨B2, cB2, rfl, t⟩; have q5 := And.intro (dsc_cells D w5 g (t.blk 0 rfl)) (dsc_cells O w5 (g + 1) (t.blk 1 rfl)); have Q1 := Lib.hid t; clear t YO)
              | (go_at_call 13; refine (looks (SM.out _ _ _ (rd_bys (Q1.out.lis 3 rfl)) (rd_bys (Q1.out.lis 4 rfl))) Q1.out).mono ?_; rintro e w6 ⟨rfl, t⟩; have q6 := And.intro (dsc_cells D w6 g (t.blk 0 rfl)) (dsc_cells O w6 (g + 1) (t.blk 1 rfl)); have Q2 := Lib.hid t; clear t Q1))
          all_goals
            go_wp2_with fail
            go_meet
            exact ⟨rfl, Q2.out.take 4⟩
      case rest =>
        obtain ⟨rfl, s7⟩ := hcut
        clear S4 YO x0 x1 x2 x3 x4 x5 x6 x7 x8 c0 c1 c2 c3 c4 c5 c6 c7 c8
        have hlc := lis_cap (s7.lis 3 rfl)
        obtain ⟨A', cap', hv, -, -, -, hcell⟩ := s7.lis_cells 3 rfl
        injection hv with hv1 _ hv2
        subst hv1 hv2
        obtain ⟨bb', off, rfl, hcc⟩ := hcell.resolve_left (by omega)
        have hyb := full_bd hm i
        have hyi : D.fullL[i]? = some (D.full i) := by simp [Dsc.fullL, hi20]
        have cy := hcc i (.int .u8 (D.full i)) (by simp [bys, hyi])
        have fy := (s7.lis 3 rfl).frozen (off + i)
        obtain ⟨z, hz⟩ : ∃ z, bits BinOp.xor IntKind.u8 (D.full i) by' = z := ⟨_, rfl⟩
        obtain ⟨hz0, hz1⟩ := xor_fact hyb ⟨bb.1, by omega⟩ hz
        have s8 := s7.lis_set 3 rfl (k := i) (by omega) (.int .u8 z)
        have eset : (bys D.fullL).set i (.int .u8 z) = bys (D.fullL.set i z) := by simp [bys]
        rw [eset] at s8
        have S8 := Lib.hid s8
        have hfx : ∀ j, j ≠ i → (fun j => (D.fullL.set i z).getD j 0) j = (fun j => D.fullL.getD j 0) j := fun j hj => by simp [List.getD, List.getElem?_set_ne (Ne.symm hj)]
        have hfi : (D.fullL.set i z).getD i 0 = z := by simp [List.getD, Dsc.fullL, hi20]
        have hxb : ∀ j, j < 20 → 0 ≤ (D.fullL.set i z).getD j 0 ∧ (D.fullL.set i z).getD j 0 < 256 := fun j hj => by
          by_cases e : j = i
          · rw [e, hfi]; exact hz0
          · have := hfx j e
            dsimp only at this
            rw [this, fullL_at D j hj]
            exact full_bd hm j
        have hlike : ∀ j, j < 20 → (fun j => (D.fullL.set i z).getD j 0) j = (fun j => if j = i then z else D.full j) j := fun j hj => by
          by_cases e : j = i
          · dsimp only; rw [e, hfi, if_pos rfl]
          · rw [hfx j e]; dsimp only; rw [if_neg e, fullL_at D j hj]
        have hiff : isD (fun j => (D.fullL.set i z).getD j 0) 20 ↔ z = D.full i := by
          rw [isD_like hlike]
          have := isD_turned hm (f := fun j => if j = i then z else D.full j) hi20 (fun j hj => if_neg hj) (by rw [if_pos rfl]; exact hz0)
          rw [this, if_pos rfl]
        have HX := Lib.hid hxb
        have HI := Lib.hid hiff
        have HL := Lib.hid hlike
        clear hcell hcc s8 hfx hfi hxb hiff hlike eset s7 hyi
        generalize hY : D.full i = y at *
        have HY := Lib.hid hY
        clear hY
        have hit : at'.tmod 20 = (i : Int) := by rw [Int.tmod_eq_emod_of_nonneg ba.1]; exact hi
        have hwa : IntKind.i64.wrap at' = at' := IntWalk.i64_in _ ⟨by omega, by omega⟩
        have hi0 : (0 : Int) ≤ (i : Int) := by omega
        have hi1 : (i : Int) < 20 := by omega
        by_cases hby : by' = 0
        · subst hby
          have hzy : z = y := hz1.2 rfl
          have FR := Lib.hid (from_xs S8.out 3 rfl HX.out D 0 (Or.inl ⟨HI.out.2 hzy, by
            rw [dec_like HL.out, ← dec_full hm]
            exact dec_like (f := D.full) (fun j hj => by
              rw [dec_full hm]
              by_cases e : j = i
              · rw [if_pos e, hzy, e, HY.out]
              · rw [if_neg e]), rfl⟩))
          unfold Dsc.v at FR
          clear hzy
          go_wp2_with fail
          refine FR.out.mono ?_
          rintro e w9 ⟨rfl, s9⟩
          have s10 : St w None (w9.alloc (.cells #[.int .i64 D.op, .int .i64 D.req, .int .i64 D.slot, .int .u64 D.gen, .int .i64 D.frm, .int .i64 D.len, .bool D.dv, .bool D.dn, .int .i64 D.st] 26)) [_, _, _, _, BlkR w9.heap.size 26 D.cells] := s9.box 26 D.cells
          obtain ⟨x0, x1, x2, x3, x4, x5, x6, x7, x8⟩ := dsc_cells D _ g (s10.blk 0 rfl)
          go_wp2_with fail
          go_ret
          exact ⟨rfl, s10.below⟩
        · have hzy : z ≠ y := fun h => hby (hz1.1 h)
          have FR := Lib.hid (from_xs S8.out 3 rfl HX.out Dsc.zero 9 (Or.inr ⟨fun h => hzy (HI.out.1 h), rfl, rfl⟩))
          have eby : (by' == 0) = false := beq_eq_false_iff_ne.2 hby
          rw [show Dsc.zero.v = .agg #[.int .i64 0, .int .i64 0, .int .i64 0, .int .u64 0, .int .i64 0, .int .i64 0, .bool false, .bool false, .int .i64 0] from rfl] at FR
          clear hzy
          go_wp2_with fail
          refine FR.out.mono ?_
          rintro e w9 ⟨rfl, s9⟩
          have s10 := s9.box 26 Dsc.zero.cells
          go_wp2_with fail
          go_ret
          exact ⟨rfl, s10.below⟩
    · go_enter Try.func5, Try.ntmps5
      go_wp2_with fail
      have s0 : St w None _ [_, _, _] := (St.begin w).box3 26 26 38 D.cells O.cells #[.int .u8 at', .int .u8 by']
      refine (looks (awake_any _) s0).mono ?_
      rintro e w1 ⟨rfl, s1⟩
      clear s0
      generalize w.heap.size = g at *
      have t1 := (s1.blk 2 rfl).two
      obtain ⟨t0, t1⟩ := t1
      obtain ⟨c0, c1, c2, c3, c4, c5, c6, c7, c8⟩ := dsc_cells D w1 g (s1.blk 0 rfl)
      obtain ⟨x0, x1, x2, x3, x4, x5, x6, x7, x8⟩ := dsc_cells O w1 (g + 1) (s1.blk 1 rfl)
      go_wp2_with fail
      refine (looks (RD.out true (decide_eq_true hm).symm _) s1).mono ?_
      rintro e w2 ⟨rfl, s2⟩
      clear s1 c0 c1 c2 c3 c4 c5 c6 c7 c8 x0 x1 x2 x3 x4 x5 x6 x7 x8 t0 t1
      obtain ⟨x0, x1, x2, x3, x4, x5, x6, x7, x8⟩ := dsc_cells O w2 (g + 1) (s2.blk 1 rfl)
      go_wp2_with fail
      refine (looks (RO.out false (decide_eq_false ho).symm _) s2).mono ?_
      rintro e w3 ⟨rfl, s3⟩
      go_wp2_with fail
      go_ret
      exact ⟨rfl, s3.below⟩
  · go_enter Try.func5, Try.ntmps5
    go_wp2_with fail
    have s0 : St w None _ [_, _, _] := (St.begin w).box3 26 26 38 D.cells O.cells #[.int .u8 at', .int .u8 by']
    refine (looks (awake_any _) s0).mono ?_
    rintro e w1 ⟨rfl, s1⟩
    clear s0
    generalize w.heap.size = g at *
    have t1 := (s1.blk 2 rfl).two
    obtain ⟨t0, t1⟩ := t1
    obtain ⟨c0, c1, c2, c3, c4, c5, c6, c7, c8⟩ := dsc_cells D w1 g (s1.blk 0 rfl)
    obtain ⟨x0, x1, x2, x3, x4, x5, x6, x7, x8⟩ := dsc_cells O w1 (g + 1) (s1.blk 1 rfl)
    go_wp2_with fail
    refine (looks (RD.out false (decide_eq_false hm).symm _) s1).mono ?_
    rintro e w2 ⟨rfl, s2⟩
    go_wp2_with fail
    go_ret
    exact ⟨rfl, s2.below⟩

set_option maxRecDepth 100000 in
theorem lifted (os : Os) (started : os.Started) (H : Type) (enc : TypeId × Value → H) :
    ReturnsInHanded {} Try.checked os 5 .any (Rows.descTurnedSpec.pre6 enc Try.prog Try.f5 Rows.descTurnedRow.domain false) (Rows.descTurnedSpec.post enc Try.prog Try.f5 false true false false) := by
  refine law_lifted (C := Try.checked) (tb := 4) own started (by kernel_rfl) Try.func5
    (ChangeSpec.witness6 (enc := enc) (C := Try.checked) false ⟨#[], #[.agg #[.int .i64 0, .int .i64 0, .int .i64 0, .int .u64 0, .int .i64 0, .int .i64 0, .bool false, .bool false, .int .i64 0], .agg #[.int .i64 0, .int .i64 0, .int .i64 0, .int .u64 0, .int .i64 0, .int .i64 0, .bool false, .bool false, .int .i64 0], .agg #[.int .u8 0, .int .u8 0]], []⟩ 8 (by kernel_rfl) (by kernel_rfl) (by kernel_rfl) (by kernel_rfl)) laid (by kernel_rfl) (by kernel_rfl) Try.underlying4 rfl ?_
  intro W base args ds ps hval0 hA0 hlt
  have hval : ∀ (j : Nat) t v, Try.f5.params[j]? = some t → args[j]? = some v → Value.okWide Try.prog W .any base t v := hval0
  have hA : DataW.TrodAll enc Try.prog W 0 (fun _ => true) true Try.f5.params.toList args.toList ds ps := hA0
  clear hA0 hval0
  rw [Try.params5] at hA hval
  obtain ⟨v0, vs0, d0, ds0, p0, q0, hargs, rfl, rfl, h0, r0⟩ := trodAll_cons hA
  obtain ⟨v1, vs1, d1, ds1, p1, q1, rfl, rfl, rfl, h1, r1⟩ := trodAll_cons r0
  obtain ⟨v2, vs2, d2, ds2, p2, q2, rfl, rfl, rfl, h2, r2⟩ := trodAll_cons r1
  obtain ⟨rfl, rfl, rfl⟩ := trodAll_nil r2
  obtain rfl : args = #[v0, v1, v2] := by cases args; simp_all
  obtain ⟨cs0, rfl, sz0, ok0⟩ := open_flat (ts := [3, 3, 3, 22, 3, 3, 4, 4, 3]) (Or.inl ⟨_, Try.underlying26⟩) (by kernel_rfl) (by kernel_rfl) (hval 0 26 v0 rfl rfl)
  obtain ⟨c0_0, c0_1, c0_2, c0_3, c0_4, c0_5, c0_6, c0_7, c0_8, rfl⟩ := size9 sz0
  obtain ⟨a0_0, rfl, w0_0⟩ := cell_int Try.underlying3 (ok0 0 _ _ rfl rfl)
  obtain ⟨a0_1, rfl, w0_1⟩ := cell_int Try.underlying3 (ok0 1 _ _ rfl rfl)
  obtain ⟨a0_2, rfl, w0_2⟩ := cell_int Try.underlying3 (ok0 2 _ _ rfl rfl)
  obtain ⟨a0_3, rfl, w0_3⟩ := cell_int Try.underlying22 (ok0 3 _ _ rfl rfl)
  obtain ⟨a0_4, rfl, w0_4⟩ := cell_int Try.underlying3 (ok0 4 _ _ rfl rfl)
  obtain ⟨a0_5, rfl, w0_5⟩ := cell_int Try.underlying3 (ok0 5 _ _ rfl rfl)
  obtain ⟨a0_6, rfl⟩ := cell_bool Try.underlying4 (ok0 6 _ _ rfl rfl)
  obtain ⟨a0_7, rfl⟩ := cell_bool Try.underlying4 (ok0 7 _ _ rfl rfl)
  obtain ⟨a0_8, rfl, w0_8⟩ := cell_int Try.underlying3 (ok0 8 _ _ rfl rfl)
  obtain ⟨cs1, rfl, sz1, ok1⟩ := open_flat (ts := [3, 3, 3, 22, 3, 3, 4, 4, 3]) (Or.inl ⟨_, Try.underlying26⟩) (by kernel_rfl) (by kernel_rfl) (hval 1 26 v1 rfl rfl)
  obtain ⟨c1_0, c1_1, c1_2, c1_3, c1_4, c1_5, c1_6, c1_7, c1_8, rfl⟩ := size9 sz1
  obtain ⟨a1_0, rfl, w1_0⟩ := cell_int Try.underlying3 (ok1 0 _ _ rfl rfl)
  obtain ⟨a1_1, rfl, w1_1⟩ := cell_int Try.underlying3 (ok1 1 _ _ rfl rfl)
  obtain ⟨a1_2, rfl, w1_2⟩ := cell_int Try.underlying3 (ok1 2 _ _ rfl rfl)
  obtain ⟨a1_3, rfl, w1_3⟩ := cell_int Try.underlying22 (ok1 3 _ _ rfl rfl)
  obtain ⟨a1_4, rfl, w1_4⟩ := cell_int Try.underlying3 (ok1 4 _ _ rfl rfl)
  obtain ⟨a1_5, rfl, w1_5⟩ := cell_int Try.underlying3 (ok1 5 _ _ rfl rfl)
  obtain ⟨a1_6, rfl⟩ := cell_bool Try.underlying4 (ok1 6 _ _ rfl rfl)
  obtain ⟨a1_7, rfl⟩ := cell_bool Try.underlying4 (ok1 7 _ _ rfl rfl)
  obtain ⟨a1_8, rfl, w1_8⟩ := cell_int Try.underlying3 (ok1 8 _ _ rfl rfl)
  obtain ⟨cs2, rfl, sz2, ok2⟩ := open_flat (ts := [5, 5]) (Or.inr ⟨_, _, Try.underlying38⟩) (by kernel_rfl) (by kernel_rfl) (hval 2 38 v2 rfl rfl)
  obtain ⟨c2_0, c2_1, rfl⟩ := size2 sz2
  obtain ⟨a2_0, rfl, w2_0⟩ := cell_int Try.underlying5 (ok2 0 _ _ rfl rfl)
  obtain ⟨a2_1, rfl, w2_1⟩ := cell_int Try.underlying5 (ok2 1 _ _ rfl rfl)
  refine ⟨⟨rfl, rfl, rfl⟩, ?_⟩
  exact walk ⟨a0_0, a0_1, a0_2, a0_3, a0_4, a0_5, a0_6, a0_7, a0_8⟩ ⟨a1_0, a1_1, a1_2, a1_3, a1_4, a1_5, a1_6, a1_7, a1_8⟩ ⟨bounds_i64 w0_0, bounds_i64 w0_1, bounds_i64 w0_2, bounds_u64 w0_3, bounds_i64 w0_4, bounds_i64 w0_5, bounds_i64 w0_8⟩ ⟨bounds_i64 w1_0, bounds_i64 w1_1, bounds_i64 w1_2, bounds_u64 w1_3, bounds_i64 w1_4, bounds_i64 w1_5, bounds_i64 w1_8⟩ a2_0 a2_1 (bounds_u8 w2_0) (bounds_u8 w2_1) W

theorem over : Rows.descTurnedRow.holds Try.pinned (OpenSpec.ofChange Rows.descTurnedSpec) :=
  OpenClaim.holds_of_wide 5 Try.f5 rfl rfl rfl rfl rfl rfl rfl ⟨rfl, rfl, rfl, rfl, rfl⟩ rfl rfl rfl rfl rfl (by kernel_rfl) Try.func5 (by kernel_rfl)
    (of_decide_eq_true (by kernel_rfl)) (by unfold Func.isWrapper; first | (rw [if_pos (by decide +kernel)]; kernel_rfl) | (rw [if_neg (by decide +kernel)]; exact ⟨rfl, rfl⟩))
    (fun os started H enc _ => lifted os started H enc)
theorem proved : Rows.DescTurnedSaid := over
#print axioms proved
end Go.Proofs.Ytninpnlmmaleaaa.descTurned
