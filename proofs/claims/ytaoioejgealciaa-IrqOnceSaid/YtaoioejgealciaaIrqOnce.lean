/-
  For every line, every list of 8-bit numbers and every two 8-bit numbers IrqOnce answers true, and changes nothing: each raise is acknowledged once, is held, or is gathered, fewer than Count of them; in no span is a line acknowledged more often than its bucket lets. No condition.
-/
import Derived.Test.YtaoioejgealciaaRows
import Derived.Test.YtaoioejgealciaaFr
import Derived.Test.YtaoioejgealciaaIrqO
namespace Go.Proofs.Ytaoioejgealciaa.irqOnce
open Go.ChangeShapes Go.WideShapes Go.ChangeAt Go.RowKit
set_option linter.unusedVariables false
theorem own : ownKnob Try.prog.godebug = none := by kernel_rfl
theorem laid : laidOutB Try.prog = true := by kernel_rfl
set_option maxRecDepth 100000
set_option maxHeartbeats 1000000
theorem rmost_c (d e s : Int) (w : World) (h : 1 ≤ d ∧ d ≤ 1000 ∧ 1 ≤ e ∧ e ≤ 1099511627776) (s0 : 0 ≤ s) (s1 : s ≤ 300) : Calls Try.prog 15 #[.int .i64 d, .int .u64 e, .int .u64 s] w fun r w' => r = .returned (.int .u64 (d + 1 + s / e)) ∧ w = w' := by
  have M2 := Lib.hid (rm12_c d e w true (decide_eq_true (show 0 < d ∧ d ≤ 1000 ∧ 0 < e ∧ e ≤ 1099511627776 by omega)).symm)
  obtain ⟨h1, h2, h3, h4⟩ := h
  have d1 : decide (1099511627776 < s) = false := decide_eq_false (by omega)
  have z : (e == 0) = false := beq_eq_false_iff_ne.2 (by omega)
  have q0 : 0 ≤ s / e := Int.ediv_nonneg s0 (by omega)
  have q1 : s / e ≤ s := Int.ediv_le_self _ s0
  obtain ⟨q, hq⟩ : ∃ q, s / e = q := ⟨_, rfl⟩
  rw [hq] at q0 q1
  go_enter Try.func15, Try.ntmps15
  go_wp2_with (go_at_call 20; refine M2.out.mono ?_; rintro e w' ⟨rfl, rfl⟩)
  go_ret
  exact ⟨by rw [hq]; rfl, rfl⟩
theorem walk (C H D E Sm Sp a b : Int) (B : Option Addr) (n cap : Nat) (f : Nat → Int) (w : World) (hH : 0 ≤ H) (ba : 0 ≤ a ∧ a ≤ 255) (bb : 0 ≤ b ∧ b ≤ 255) (hm : n ≤ maxLen) (rd : Rd w B n (fun i => .int .u8 (f i))) (hf : ∀ i, 0 ≤ f i ∧ f i ≤ 255) :
    Calls Try.prog 3 #[.agg #[.int .i64 C, .int .u64 H, .int .i64 D, .int .u64 E, .int .i64 Sm, .int .u64 Sp], .slice B n cap, .agg #[.int .u8 a, .int .u8 b]] w fun r w' => r = .returned (.bool true) ∧ Below w.heap.size w w' := by
  unfold maxLen at hm
  have s0 : St w None _ [_, _] := (St.begin w).box2 24 26 #[.int .i64 C, .int .u64 H, .int .i64 D, .int .u64 E, .int .i64 Sm, .int .u64 Sp] #[.int .u8 a, .int .u8 b]
  have S0 := Lib.hid s0
  clear s0
  by_cases hmay : mayL C H D E Sm Sp
  case neg =>
    have RM := Lib.hid (fun w => rmay_c C H D E Sm Sp w false (decide_eq_false hmay).symm hH)
    clear hmay
    go_enter Try.func3, Try.ntmps3
    go_wp2_with fail
    refine (awake_c _).mono ?_
    rintro e w1 ⟨rfl, hb1⟩
    have s1 := S0.out.stay hb1
    obtain ⟨c0, c1, c2, c3, c4, c5⟩ := (s1.blk 0 rfl).six
    have S1 := Lib.hid s1
    clear s1 hb1
    go_wp2_with fail
    refine (RM.out _).mono ?_
    rintro e w2 ⟨rfl, hb2⟩
    have s2 := S1.out.stay hb2
    clear hb2 c0 c1 c2 c3 c4 c5
    obtain ⟨c0, c1, c2, c3, c4, c5⟩ := (s2.blk 0 rfl).six
    have S2 := Lib.hid s2.below
    clear s2 S1
    go_wp2_with fail
    go_ret
    exact ⟨rfl, S2.out⟩
  have RM := Lib.hid (fun w => rmay_c C H D E Sm Sp w true (decide_eq_true hmay).symm hH)
  by_cases hn0 : n = 0
  case pos =>
    subst hn0
    clear hmay
    go_enter Try.func3, Try.ntmps3
    go_wp2_with fail
    refine (awake_c _).mono ?_
    rintro e w1 ⟨rfl, hb1⟩
    have s1 := S0.out.stay hb1
    obtain ⟨c0, c1, c2, c3, c4, c5⟩ := (s1.blk 0 rfl).six
    have S1 := Lib.hid s1
    clear s1 hb1
    go_wp2_with fail
    refine (RM.out _).mono ?_
    rintro e w2 ⟨rfl, hb2⟩
    have s2 := S1.out.stay hb2
    clear hb2 c0 c1 c2 c3 c4 c5
    obtain ⟨c0, c1, c2, c3, c4, c5⟩ := (s2.blk 0 rfl).six
    have S2 := Lib.hid s2.below
    clear s2 S1
    go_wp2_with fail
    go_ret
    exact ⟨rfl, S2.out⟩
  have dn : decide ((n : Int) = 0) = false := decide_eq_false (by omega)
  have dn2 : ((n : Int) == 0) = false := beq_eq_false_iff_ne.2 (by omega)
  have dn3 : (n == 0) = false := beq_eq_false_iff_ne.2 hn0
  have HM2 := Lib.hid (show mayL C H D E 10000 Sp from ⟨hmay.1, hmay.2.1, by omega, hmay.2.2.2⟩)
  obtain ⟨-, hde, -, -⟩ := hmay
  have HDE := Lib.hid hde
  obtain ⟨hd1, hd2, he1, he2⟩ := hde
  obtain ⟨p, hp⟩ : ∃ p, Int.tmod a 200 = p := ⟨_, rfl⟩
  obtain ⟨q, hq⟩ : ∃ q, Int.tmod b 100 = q := ⟨_, rfl⟩
  have hp2 : 0 ≤ p ∧ p < 200 := by rw [← hp, Int.tmod_eq_emod_of_nonneg ba.1]; omega
  have hq2 : 0 ≤ q ∧ q < 100 := by rw [← hq, Int.tmod_eq_emod_of_nonneg bb.1]; omega
  obtain ⟨ba0, ba1⟩ := ba
  obtain ⟨bb0, bb1⟩ := bb
  have ep : a % 200 = p := by rw [← hp, Int.tmod_eq_emod_of_nonneg ba0]
  have eq2 : b % 100 = q := by rw [← hq, Int.tmod_eq_emod_of_nonneg bb0]
  go_enter Try.func3, Try.ntmps3
  go_wp2_with fail
  refine (awake_c _).mono ?_
  rintro e w1 ⟨rfl, hb1⟩
  have s1 := S0.out.stay hb1
  obtain ⟨c0, c1, c2, c3, c4, c5⟩ := (s1.blk 0 rfl).six
  have S1 := Lib.hid s1
  clear s1 hb1
  go_wp2_with fail
  refine (RM.out _).mono ?_
  rintro e w2 ⟨rfl, hb2⟩
  have s2 := S1.out.stay hb2
  clear hb2 c0 c1 c2 c3 c4 c5
  obtain ⟨c0, c1, c2, c3, c4, c5⟩ := (s2.blk 0 rfl).six
  have f4 := (s2.blk 0 rfl).frozen 4
  have s3 : St w None _ [BlkR w.heap.size 24 #[.int .i64 C, .int .u64 H, .int .i64 D, .int .u64 E, .int .i64 10000, .int .u64 Sp], BlkR (w.heap.size + 1) 26 #[.int .u8 a, .int .u8 b]] := s2.set_ 0 rfl 4 (.int .i64 10000)
  have N0 := (New1_o (s3.alloc (.cells #[.int .i64 C, .int .u64 H, .int .i64 D, .int .u64 E, .int .i64 10000, .int .u64 Sp] 24)) _ 1 _ (rdm_box _ 24 _ _ _ _ _ _) (C := C) (H := H) (D := D) (E := E) (Sm := 10000) (Sp := Sp) ⟨rfl, rfl, rfl, rfl, rfl, rfl⟩ HM2.out)
  rw [show (w2.setCell ⟨w.heap.size, 4, none⟩ (.int .i64 10000)).heap.size = w2.heap.size by simp [World.setCell]] at N0
  have N1 := Lib.hid N0
  clear s2 s3 N0
  go_wp2_with fail
  refine N1.out.mono ?_
  rintro e w4 ⟨c, gb, bb, rfl, s4⟩
  have b0 := (s4.blk (1 + 1 + 1 + 1) (il_x rfl)).two_cells.1
  have b1 := (s4.blk (1 + 1 + 1 + 1) (il_x rfl)).two_cells.2
  have S4 := Lib.hid s4
  clear s4 N1 c0 c1 c2 c3 c4 c5 f4 RM
  generalize hg : w.heap.size = g at b0 b1 S4 ⊢
  go_wp2_with fail
  have s5 := S4.out
  clear S4 S0 b0 b1
  have FO := Lib.hid (Of.new (C := C) (D := D) (E := E) (Sm := 10000) (H := H) (Sp := Sp) (f := p) (to := p + q) (by omega) (by omega) (by omega))
  go_loopw [11, 12, 13, 14] (fun x11 x12 x13 x14 wr => ∃ (t : Nat) (l : Ln) (now R A O : Int) (gb : Nat → Nat), t ≤ 200 ∧ x11 = .int .i64 R ∧ x12 = .int .i64 A ∧ x13 = .int .i64 O ∧ x14 = .int .i64 t ∧ St w None wr (One c now l gb bb [BlkR g 24 #[.int .i64 C, .int .u64 H, .int .i64 D, .int .u64 E, .int .i64 10000, .int .u64 Sp], BlkR (g + 1) 26 #[.int .u8 a, .int .u8 b]]) ∧ l.ok now R ∧ 0 ≤ now ∧ now ≤ t ∧ Nx C D E 10000 A R l ∧ l.pends = 0 ∧ Of D E p (p + q) t O l ∧ 0 ≤ A ∧ 0 ≤ O ∧ O ≤ A ∧ A ≤ R ∧ R ≤ 3 * t) (fun _ _ _ x _ => 200 - (intOf x).toNat)
  case atStart => exact ⟨0, _, 0, 0, 0, 0, gb, by omega, rfl, rfl, rfl, rfl, s5, Ln.new_ok HM2.out, by omega, by omega, Nx.new, rfl, FO.out, by omega, by omega, by omega, by omega, by omega⟩
  case round =>
    clear s5 FO
    obtain ⟨t, l, now, R, A, O, gb, ht, rfl, rfl, rfl, rfl, sr, hok, hn0, hn1, hnx, hpe, hof, a0, o0, o1, a1, r1⟩ := hrel
    have HOK := Lib.hid hok
    have HNX := Lib.hid hnx
    have HOF := Lib.hid hof
    clear hpe
    by_cases hlt : t < 200
    · have dt : decide ((t : Int) < 200) = true := decide_eq_true (by omega)
      have ut : IntKind.u64.wrap (t : Int) = t := IntWalk.u64_in _ ⟨by omega, by omega⟩
      have fk := hf (t % n)
      have m0 : 0 ≤ f (t % n) % 4 := Int.emod_nonneg _ (by omega)
      have m1 : f (t % n) % 4 < 4 := Int.emod_lt_of_pos _ (by omega)
      have t0 : (0 : Int) ≤ (t : Int) := by omega
      have S5 := Lib.hid sr
      clear sr hok hnx hof
      go_wp2_with fail
      have s5 := S5.out
      go_loopw [11, 15] (fun x11 x15 wr => ∃ (i : Nat) (l : Ln) (now : Int) (gb : Nat → Nat), (i : Int) ≤ f (t % n) % 4 ∧ x11 = .int .i64 (R + i) ∧ x15 = .int .i64 i ∧ St w None wr (One c now l gb bb [BlkR g 24 #[.int .i64 C, .int .u64 H, .int .i64 D, .int .u64 E, .int .i64 10000, .int .u64 Sp], BlkR (g + 1) 26 #[.int .u8 a, .int .u8 b]]) ∧ l.ok now (R + i) ∧ 0 ≤ now ∧ now ≤ t ∧ Nx C D E 10000 A (R + i) l ∧ Of D E p (p + q) t O l) (fun _ x _ => 4 - (intOf x).toNat)
      case atStart => exact ⟨0, l, now, gb, by omega, by simp, rfl, s5, by simpa using HOK.out, hn0, hn1, by simpa using HNX.out, HOF.out⟩
      case round =>
        clear s5 S5 HOK HNX HOF
        obtain ⟨i, l2, now2, gb2, hi, rfl, rfl, sr, hok, q0, q1, hnx, hof⟩ := hrel
        obtain ⟨sb, off, rfl, hsb, hcell⟩ := rd (by omega)
        have hy : wr.cell? ⟨sb, off + t % n, none⟩ = some (.int .u8 (f (t % n))) := (sr.cell (p := ⟨sb, off + t % n, none⟩) hsb id).trans (hcell _ (Nat.mod_lt _ (by omega)))
        have hkn : t % n < n := Nat.mod_lt _ (by omega)
        clear hcell
        have i0 : (0 : Int) ≤ (i : Int) := by omega
        have o5 := Ln.goOn_ok hok t0 q1 (by omega)
        have p5 := goOn_pot hok t0 q1 (by omega)
        have n5 := hnx.goOn (t : Int) hok.p0
        by_cases hli : (i : Int) < f (t % n) % 4
        · have d3 : decide ((i : Int) < f (t % n) % 4) = true := decide_eq_true hli
          obtain ⟨rs, n6, p6⟩ := n5.raise o5 t0 (by omega) (by omega) (by omega)
          have C1 := Lib.hid (Raise1_o (R := R + i) (t := (t : Int)) sr hok q0 q1 (by omega) (by omega))
          rw [rs] at C1
          have F6 := Lib.hid (hof.le (l' := ((l2.goOn t).raise t).1) (by omega))
          have N6 := Lib.hid n6
          have O6 := Lib.hid (Ln.raise_ok o5 t0 (by omega) (by omega))
          clear sr hok hnx hof o5 p5 n5 rs n6 p6
          go_wp2_with fail
          refine C1.out.mono ?_
          rintro e w6 ⟨rfl, g6, s6⟩
          have S6 := Lib.hid s6
          clear s6 C1 hy
          go_wp2_with fail
          go_roundw
          case rel =>
            have e1 : R + ((i + 1 : Nat) : Int) = R + i + 1 := by omega
            exact ⟨i + 1, _, t, g6, by omega, by rw [e1], by go_num, S6.out, by rw [e1]; exact O6.out, t0, Int.le_refl _, by rw [e1]; exact N6.out, F6.out⟩
          case measure => simp [intOf]; omega
        have d3 : decide ((i : Int) < f (t % n) % 4) = false := decide_eq_false hli
        have C2 := Lib.hid (Go1_o (R := R + i) (t := (t : Int)) sr hok q0 q1 (by omega))
        have F5 := Lib.hid (hof.le (l' := l2.goOn t) p5)
        have N5 := Lib.hid n5
        have O5 := Lib.hid o5
        have ar : A ≤ R + i := by omega
        have r3 : R + i ≤ 3 * t + 3 := by omega
        clear sr hok hnx hof o5 p5 n5
        go_wp2_with fail
        refine C2.out.mono ?_
        rintro e w6 ⟨rfl, s6⟩
        clear C2 hy hsb
        have S6 := Lib.hid s6
        clear s6
        go_wp2_with fail
        have s6 := S6.out
        go_loopw [12, 13] (fun x12 x13 wr => ∃ (l : Ln) (A' O' : Int), x12 = .int .i64 A' ∧ x13 = .int .i64 O' ∧ St w None wr (One c t l gb2 bb [BlkR g 24 #[.int .i64 C, .int .u64 H, .int .i64 D, .int .u64 E, .int .i64 10000, .int .u64 Sp], BlkR (g + 1) 26 #[.int .u8 a, .int .u8 b]]) ∧ l.ok t (R + i) ∧ Nx C D E 10000 A' (R + i) l ∧ Of D E p (p + q) t O' l ∧ 0 ≤ A' ∧ 0 ≤ O' ∧ O' ≤ A' ∧ A' ≤ R + i) (fun x _ _ => (R + i).toNat - (intOf x).toNat)
        case atStart => exact ⟨_, A, O, rfl, rfl, s6, O5.out, N5.out, F5.out, a0, o0, o1, ar⟩
        case round =>
          clear s6 S6 O5 N5 F5 a0 o0 o1 ar a1
          obtain ⟨l3, A', O', rfl, rfl, sr, hok, hnx, hof, a0, o0, o1, ar⟩ := hrel
          have CA := Lib.hid (Ack1_o (R := R + i) (t := (t : Int)) sr hok t0 (Int.le_refl _) (by omega) (by omega))
          have HOK := Lib.hid hok
          have HNX := Lib.hid hnx
          have HOF := Lib.hid hof
          clear sr hok hnx hof
          go_wp2_with fail
          refine CA.out.mono ?_
          rintro e wA ⟨x, fl, rfl, l1, hl1, hfl⟩
          have oA : l1.ok t (R + i) ∧ Nx C D E 10000 A' (R + i) l1 ∧ Of D E p (p + q) t O' l1 ∧ l1.pends = l3.pends := by
            rcases hl1 with e | e
            · rw [e]; exact ⟨HOK.out, HNX.out, HOF.out, rfl⟩
            · rw [e]; exact ⟨Ln.fresh_ok HOK.out t0, HNX.out.fresh, HOF.out.le (by rw [fresh_pot HOK.out]; exact Int.le_refl _), rfl⟩
          obtain ⟨oA, nA, fA, eA⟩ := oA
          rcases hfl with ⟨rfl, hz, hx0, hxe, sA⟩ | ⟨rfl, rfl, hz, sA⟩
          · have oB := Ln.goOn_ok oA t0 (Int.le_refl _) (by omega)
            have nB := (nA.goOn (t : Int) oA.p0).ack (t := (t : Int)) oB.p0
            have pB := goOn_pot oA t0 (Int.le_refl _) (by omega)
            have pC := ack_pot oB (by omega)
            have oC := Ln.ack_ok oB t0
            have sC := nB.sum
            have hC0 := oC.h0
            have hC1 := oC.p0
            unfold Ln.tot at sC
            rw [← hxe] at nB sC
            have x1 : A' + x ≤ R + i := by omega
            have OC := Lib.hid oC
            have NC := Lib.hid nB
            have SA := Lib.hid sA
            have dx : decide (x < 1) = false := decide_eq_false (by omega)
            by_cases w1 : p ≤ (t : Int)
            · have dw1 : decide (p ≤ (t : Int)) = true := decide_eq_true w1
              by_cases w2 : (t : Int) < p + q
              · have dw2 : decide ((t : Int) < p + q) = true := decide_eq_true w2
                have FC := Lib.hid ((fA.le (l' := l1.goOn t) pB).inn pC w1 w2)
                clear CA hl1 oA nA fA eA oB nB pB pC oC sC hC0 hC1 hxe sA hz HOK HNX HOF
                go_wp2_with fail
                go_roundw
                case rel => exact ⟨_, A' + x, O' + 1, by go_num, by go_num, SA.out, OC.out, NC.out, FC.out, by omega, by omega, by omega, by omega⟩
                case measure => simp [intOf]; omega
              · have dw2 : decide ((t : Int) < p + q) = false := decide_eq_false w2
                have FC := Lib.hid (fA.le (l' := (l1.goOn t).ack t) (by omega))
                clear CA hl1 oA nA fA eA oB nB pB pC oC sC hC0 hC1 hxe sA hz HOK HNX HOF
                go_wp2_with fail
                go_roundw
                case rel => exact ⟨_, A' + x, O', by go_num, by go_num, SA.out, OC.out, NC.out, FC.out, by omega, by omega, by omega, by omega⟩
                case measure => simp [intOf]; omega
            · have dw1 : decide (p ≤ (t : Int)) = false := decide_eq_false w1
              have FC := Lib.hid (fA.le (l' := (l1.goOn t).ack t) (by omega))
              clear CA hl1 oA nA fA eA oB nB pB pC oC sC hC0 hC1 hxe sA hz HOK HNX HOF
              go_wp2_with fail
              go_roundw
              case rel => exact ⟨_, A' + x, O', by go_num, by go_num, SA.out, OC.out, NC.out, FC.out, by omega, by omega, by omega, by omega⟩
              case measure => simp [intOf]; omega
          · have pz : l1.pends = 0 := by
              rw [eA]
              rcases hz with h | h
              · rw [HNX.out.ma] at h; cases h
              · exact h
            have CS := Lib.hid (State1_o sA)
            obtain ⟨hh, hhe⟩ : ∃ hh, l1.held = hh := ⟨_, rfl⟩
            have x1 : 0 ≤ hh := by rw [← hhe]; exact oA.h0
            have sT := nA.sum
            have wl := oA.g.len
            rw [nA.c] at wl
            unfold Ln.tot at sT
            rw [hhe, pz] at sT
            have x2 : A' + hh ≤ R + i := by omega
            have x3 : R + i - A' - hh < C := by omega
            have FN := Lib.hid (fA.next oA nA.e nA.d pz (by omega))
            rw [nA.ma, pz, hhe] at CS
            have OA := Lib.hid oA
            have NA := Lib.hid nA
            have PZ := Lib.hid pz
            have dw1 : decide (R + i < A' + hh) = false := decide_eq_false (by omega)
            have dw2 : decide (C ≤ R + i - A' - hh) = false := decide_eq_false (by omega)
            clear CA hl1 oA nA fA eA hz sA HOK HNX HOF pz hhe sT wl
            go_wp2_with fail
            refine CS.out.mono ?_
            rintro e w8 ⟨rfl, s8⟩
            obtain ⟨b0, -, -, -, -, -⟩ := (s8.blk (1 + 1 + 1 + 0) (il_x rfl)).six
            have S8 := Lib.hid s8
            clear s8 CS
            go_wp2_with fail
            go_roundw
            case rel => exact ⟨t + 1, l1, t, R + i, A', O', gb2, by omega, rfl, rfl, rfl, by go_num, S8.out, OA.out, t0, by omega, NA.out, PZ.out, by exact_mod_cast FN.out, a0, o0, o1, ar, by omega⟩
            case measure => simp [intOf]; omega
    obtain rfl : t = 200 := by omega
    obtain ⟨b0, b1, b2, b3, b4, b5⟩ := (sr.blk (1 + 1 + 1 + 0) (il_x rfl)).six
    have hd := hof.done (hok.later (show now ≤ ((200 : Nat) : Int) by omega)) he1 hp2.1 (by omega) (by omega)
    have SB := Lib.hid sr.below
    have HM := Lib.hid fun wz => rmost_c D E q wz HDE.out (by omega) (by omega)
    have eq3 : p + q - p = q := by omega
    rw [eq3] at hd
    have oq : O ≤ 600 := by omega
    have q3 : 0 ≤ q / E := Int.ediv_nonneg hq2.1 (by omega)
    have q4 : q / E ≤ q := Int.ediv_le_self _ hq2.1
    obtain ⟨z, hz⟩ : ∃ z, q / E = z := ⟨_, rfl⟩
    rw [hz] at HM hd q3 q4
    have dz : decide (O ≤ D + 1 + z) = true := decide_eq_true (by omega)
    have w1 : IntKind.u64.wrap O = O := IntWalk.u64_in _ ⟨by omega, by omega⟩
    have w2 : IntKind.u64.wrap q = q := IntWalk.u64_in _ ⟨by omega, by omega⟩
    have w3 : IntKind.i64.wrap (p + q - p) = q := by rw [eq3]; exact IntWalk.i64_in _ ⟨by omega, by omega⟩
    have w4 : IntKind.i64.wrap q = q := IntWalk.i64_in _ ⟨by omega, by omega⟩
    clear sr hok hof hnx HOK HNX HOF r1 hz
    go_wp2_with fail
    refine (HM.out _).mono ?_
    rintro e w' ⟨rfl, rfl⟩
    go_wp2_with fail
    go_ret
    exact ⟨rfl, SB.out⟩

set_option maxRecDepth 100000 in
theorem lifted (os : Os) (started : os.Started) (H : Type) (enc : TypeId × Value → H) :
    ReturnsInHanded {} Try.checked os 3 .any (Rows.irqOnceSpec.pre6 enc Try.prog Try.f3 Rows.irqOnceRow.domain false) (Rows.irqOnceSpec.post enc Try.prog Try.f3 false true false false) := by
  refine law_lifted (C := Try.checked) (tb := 4) own started (by kernel_rfl) Try.func3
    (ChangeSpec.witness6 (enc := enc) (C := Try.checked) false ⟨#[], #[.agg #[.int .i64 0, .int .u64 0, .int .i64 0, .int .u64 0, .int .i64 0, .int .u64 0], .slice none 0 0, .agg #[.int .u8 0, .int .u8 0]], []⟩ 8 (by kernel_rfl) (by kernel_rfl) (by kernel_rfl) (by kernel_rfl)) laid (by kernel_rfl) (by kernel_rfl) Try.underlying4 rfl ?_
  intro W base args ds ps hval0 hA0 hlt
  have hval : ∀ (j : Nat) t v, Try.f3.params[j]? = some t → args[j]? = some v → Value.okWide Try.prog W .any base t v := hval0
  have hA : DataW.TrodAll enc Try.prog W 0 (fun _ => true) true Try.f3.params.toList args.toList ds ps := hA0
  clear hA0 hval0
  rw [Try.params3] at hA hval
  obtain ⟨v0, vs0, d0, ds0, p0, q0, hargs, rfl, rfl, h0, r0⟩ := trodAll_cons hA
  obtain ⟨v1, vs1, d1, ds1, p1, q1, rfl, rfl, rfl, h1, r1⟩ := trodAll_cons r0
  obtain ⟨v2, vs2, d2, ds2, p2, q2, rfl, rfl, rfl, h2, r2⟩ := trodAll_cons r1
  obtain ⟨rfl, rfl, rfl⟩ := trodAll_nil r2
  obtain rfl : args = #[v0, v1, v2] := by cases args; simp_all
  obtain ⟨cs0, rfl, sz0, ok0⟩ := open_flat (ts := [3, 22, 3, 22, 3, 22]) (Or.inl ⟨_, Try.underlying24⟩) (by kernel_rfl) (by kernel_rfl) (hval 0 24 v0 rfl rfl)
  obtain ⟨c0_0, c0_1, c0_2, c0_3, c0_4, c0_5, rfl⟩ := size6 sz0
  obtain ⟨a0_0, rfl, w0_0⟩ := cell_int Try.underlying3 (ok0 0 _ _ rfl rfl)
  obtain ⟨a0_1, rfl, w0_1⟩ := cell_int Try.underlying22 (ok0 1 _ _ rfl rfl)
  obtain ⟨a0_2, rfl, w0_2⟩ := cell_int Try.underlying3 (ok0 2 _ _ rfl rfl)
  obtain ⟨a0_3, rfl, w0_3⟩ := cell_int Try.underlying22 (ok0 3 _ _ rfl rfl)
  obtain ⟨a0_4, rfl, w0_4⟩ := cell_int Try.underlying3 (ok0 4 _ _ rfl rfl)
  obtain ⟨a0_5, rfl, w0_5⟩ := cell_int Try.underlying22 (ok0 5 _ _ rfl rfl)
  obtain ⟨A1, n1, cap1, f1, rfl, le1, mx1, wf1, rd1⟩ := open_slice_ints Try.underlying25 Try.underlying5 (by kernel_rfl) (hval 1 25 v1 rfl rfl) h1
  obtain ⟨cs2, rfl, sz2, ok2⟩ := open_flat (ts := [5, 5]) (Or.inr ⟨_, _, Try.underlying26⟩) (by kernel_rfl) (by kernel_rfl) (hval 2 26 v2 rfl rfl)
  obtain ⟨c2_0, c2_1, rfl⟩ := size2 sz2
  obtain ⟨a2_0, rfl, w2_0⟩ := cell_int Try.underlying5 (ok2 0 _ _ rfl rfl)
  obtain ⟨a2_1, rfl, w2_1⟩ := cell_int Try.underlying5 (ok2 1 _ _ rfl rfl)
  refine ⟨⟨rfl, rfl, rfl⟩, ?_⟩
  exact walk a0_0 a0_1 a0_2 a0_3 a0_4 a0_5 a2_0 a2_1 A1 n1 cap1 f1 W (bounds_u64 w0_1).1 (bounds_u8 w2_0) (bounds_u8 w2_1) (by omega) rd1 (fun i => bounds_u8 (wf1 i))

theorem over : Rows.irqOnceRow.holds Try.pinned (OpenSpec.ofChange Rows.irqOnceSpec) :=
  OpenClaim.holds_of_wide 3 Try.f3 rfl rfl rfl rfl rfl rfl rfl ⟨rfl, rfl, rfl, rfl, rfl⟩ rfl rfl rfl rfl rfl (by kernel_rfl) Try.func3 (by kernel_rfl)
    (of_decide_eq_true (by kernel_rfl)) (by unfold Func.isWrapper; first | (rw [if_pos (by decide +kernel)]; kernel_rfl) | (rw [if_neg (by decide +kernel)]; exact ⟨rfl, rfl⟩))
    (fun os started H enc _ => lifted os started H enc)
theorem proved : Rows.IrqOnceSaid := over
#print axioms proved
end Go.Proofs.Ytaoioejgealciaa.irqOnce
