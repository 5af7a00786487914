/-
  For every line and every 8-bit number IrqWindows answers true, and changes nothing: as many raises as a window lets, in each of several windows, are no storm. No condition.
-/
import Derived.Test.YtaoioejgealciaaRows
import Derived.Test.YtaoioejgealciaaFr
import Derived.Test.YtaoioejgealciaaIrqL
import Derived.Deep.RegionHeld3
namespace Go.Proofs.Ytaoioejgealciaa.irqWindows
open Go.ChangeShapes Go.WideShapes Go.ChangeAt Go.RowKit
set_option linter.unusedVariables false
theorem own : ownKnob Try.prog.godebug = none := by kernel_rfl
theorem laid : laidOutB Try.prog = true := by kernel_rfl
set_option maxRecDepth 100000
set_option maxHeartbeats 1000000
theorem walk (C H D E Sm Sp a : Int) (w : World) (hH : 0 ≤ H) (ba : 0 ≤ a ∧ a ≤ 255) :
    Calls Try.prog 7 #[.agg #[.int .i64 C, .int .u64 H, .int .i64 D, .int .u64 E, .int .i64 Sm, .int .u64 Sp], .int .u8 a] w fun r w' => r = .returned (.bool true) ∧ Below w.heap.size w w' := by
  have s0 : St w None _ [BlkR w.heap.size 24 #[.int .i64 C, .int .u64 H, .int .i64 D, .int .u64 E, .int .i64 Sm, .int .u64 Sp]] := (St.begin w).box 24 #[.int .i64 C, .int .u64 H, .int .i64 D, .int .u64 E, .int .i64 Sm, .int .u64 Sp]
  have S0 := Lib.hid s0
  clear s0
  by_cases hmay : mayL C H D E Sm Sp
  case neg =>
    have RM := Lib.hid (fun w => rmay_c C H D E Sm Sp w false (decide_eq_false hmay).symm hH)
    clear hmay
    go_enter Try.func7, Try.ntmps7
    go_wp2_with fail
    refine (awake_c _).mono ?_
    rintro e w1 ⟨rfl, hb1⟩
    have s1 := S0.out.stay hb1
    obtain ⟨c0, c1, c2, c3, c4, c5⟩ := (s1.blk 0 rfl).six
    have S1 := Lib.hid s1
    clear s1 hb1
    go_wp2_with fail
    refine (RM.out _).mono ?_
    rintro e w2 ⟨rfl, hb2⟩
    have s2 := S1.out.stay hb2
    clear hb2 c0 c1 c2 c3 c4 c5
    obtain ⟨c0, c1, c2, c3, c4, c5⟩ := (s2.blk 0 rfl).six
    have S2 := Lib.hid s2.below
    clear s2 S1
    go_wp2_with fail
    go_ret
    exact ⟨rfl, S2.out⟩
  have RM := Lib.hid (fun w => rmay_c C H D E Sm Sp w true (decide_eq_true hmay).symm hH)
  have HM := Lib.hid hmay
  by_cases h30 : 30 < Sm
  case pos =>
    have d1 : decide (30 < Sm) = true := decide_eq_true h30
    clear hmay h30
    go_enter Try.func7, Try.ntmps7
    go_wp2_with fail
    refine (awake_c _).mono ?_
    rintro e w1 ⟨rfl, hb1⟩
    have s1 := S0.out.stay hb1
    obtain ⟨c0, c1, c2, c3, c4, c5⟩ := (s1.blk 0 rfl).six
    have S1 := Lib.hid s1
    clear s1 hb1
    go_wp2_with fail
    refine (RM.out _).mono ?_
    rintro e w2 ⟨rfl, hb2⟩
    have s2 := S1.out.stay hb2
    clear hb2 c0 c1 c2 c3 c4 c5
    obtain ⟨c0, c1, c2, c3, c4, c5⟩ := (s2.blk 0 rfl).six
    have S2 := Lib.hid s2.below
    clear s2 S1
    go_wp2_with fail
    go_ret
    exact ⟨rfl, S2.out⟩
  have d1 : decide (30 < Sm) = false := decide_eq_false h30
  by_cases h20 : 1048576 < Sp
  case pos =>
    have d2 : decide (1048576 < Sp) = true := decide_eq_true h20
    clear hmay h30
    go_enter Try.func7, Try.ntmps7
    go_wp2_with fail
    refine (awake_c _).mono ?_
    rintro e w1 ⟨rfl, hb1⟩
    have s1 := S0.out.stay hb1
    obtain ⟨c0, c1, c2, c3, c4, c5⟩ := (s1.blk 0 rfl).six
    have S1 := Lib.hid s1
    clear s1 hb1
    go_wp2_with fail
    refine (RM.out _).mono ?_
    rintro e w2 ⟨rfl, hb2⟩
    have s2 := S1.out.stay hb2
    clear hb2 c0 c1 c2 c3 c4 c5
    obtain ⟨c0, c1, c2, c3, c4, c5⟩ := (s2.blk 0 rfl).six
    have S2 := Lib.hid s2.below
    clear s2 S1
    go_wp2_with fail
    go_ret
    exact ⟨rfl, S2.out⟩
  have d2 : decide (1048576 < Sp) = false := decide_eq_false h20
  obtain ⟨⟨hs1, hs2⟩, hp1, hp2⟩ := hmay.2.2
  obtain ⟨r, hr⟩ : ∃ r, Int.tmod a Sp = r := ⟨_, rfl⟩
  obtain ⟨ba0, ba1⟩ := ba
  have er : a % Sp = r := by rw [← hr, Int.tmod_eq_emod_of_nonneg ba0]
  have r0 : 0 ≤ r := by rw [← er]; exact Int.emod_nonneg _ (by omega)
  have r1 : r < Sp := by rw [← er]; exact Int.emod_lt_of_pos _ (by omega)
  have z1 : (Sp == 0) = false := beq_eq_false_iff_ne.2 (by omega)
  clear hmay
  go_enter Try.func7, Try.ntmps7
  go_wp2_with fail
  refine (awake_c _).mono ?_
  rintro e w1 ⟨rfl, hb1⟩
  have s1 := S0.out.stay hb1
  obtain ⟨c0, c1, c2, c3, c4, c5⟩ := (s1.blk 0 rfl).six
  have S1 := Lib.hid s1
  clear s1 hb1
  go_wp2_with fail
  refine (RM.out _).mono ?_
  rintro e w2 ⟨rfl, hb2⟩
  have s2 := S1.out.stay hb2
  clear hb2 c0 c1 c2 c3 c4 c5
  obtain ⟨c0, c1, c2, c3, c4, c5⟩ := (s2.blk 0 rfl).six
  have N0 := (New1_o (s2.alloc (.cells #[.int .i64 C, .int .u64 H, .int .i64 D, .int .u64 E, .int .i64 Sm, .int .u64 Sp] 24)) _ 1 _ (rdm_box _ 24 _ _ _ _ _ _) (C := C) (H := H) (D := D) (E := E) (Sm := Sm) (Sp := Sp) ⟨rfl, rfl, rfl, rfl, rfl, rfl⟩ HM.out)
  have N1 := Lib.hid N0
  clear s2 N0 S1
  go_wp2_with fail
  refine N1.out.mono ?_
  rintro e w4 ⟨c, gb, bb, rfl, s4⟩
  have S4 := Lib.hid s4
  clear s4 N1 c0 c1 c2 c3 c4 c5 RM
  generalize hg : w.heap.size = g at S4 ⊢
  go_wp2_with fail
  have s5 := S4.out
  clear S4 S0
  go_loopw [7, 8, 9] (fun x7 x8 x9 wr => ∃ (k : Nat) (l : Ln) (now R A : Int) (gb : Nat → Nat), k ≤ 10 ∧ x7 = .int .i64 R ∧ x8 = .int .i64 A ∧ x9 = .int .u64 k ∧ St w None wr (One c now l gb bb [BlkR g 24 #[.int .i64 C, .int .u64 H, .int .i64 D, .int .u64 E, .int .i64 Sm, .int .u64 Sp]]) ∧ l.ok now R ∧ 0 ≤ now ∧ now ≤ k * Sp ∧ Wd Sm Sp k 0 A R l ∧ 0 ≤ A ∧ 0 ≤ R ∧ R ≤ 30 * k) (fun _ _ x _ => 10 - (intOf x).toNat)
  case atStart => exact ⟨0, _, 0, 0, 0, gb, by omega, rfl, rfl, rfl, s5, Ln.new_ok HM.out, by omega, by simp, Wd.new, by omega, by omega, by omega⟩
  case round =>
    clear s5
    obtain ⟨k, l, now, R, A, gb, hk, rfl, rfl, rfl, sr, hok, hn0, hn1, hwd, hA0, hR0, hR1⟩ := hrel
    have HOK := Lib.hid hok
    have HWD := Lib.hid hwd
    obtain ⟨-, -, -, -, b4, b5⟩ := (sr.blk (1 + 1 + 1 + 0) (il_x rfl)).six
    by_cases hlt : k < 10
    · have k0 : (0 : Int) ≤ (k : Int) := by omega
      have k1 : (k : Int) < 10 := by omega
      have m0 : (0 : Int) ≤ (k : Int) * Sp := Int.mul_nonneg k0 (by omega)
      have m1 : (k : Int) * Sp ≤ 10485760 := Int.le_trans (Int.mul_le_mul (show (k : Int) ≤ 10 by omega) (show Sp ≤ 1048576 by omega) (by omega) (by omega)) (by decide)
      have dv : ((k : Int) * Sp + r) / Sp = k := by rw [Int.add_comm, Int.add_mul_ediv_right _ _ (by omega), Int.ediv_eq_zero_of_lt r0 r1, Int.zero_add]
      have HDV := Lib.hid dv
      have r2 : r ≤ 1048575 := by omega
      have z2 : ¬ Sp = 0 := by omega
      have u1 : IntKind.u64.wrap r = r := IntWalk.u64_in _ ⟨by omega, by omega⟩
      have u2 : IntKind.u64.wrap ((k : Int) * Sp) = (k : Int) * Sp := IntWalk.u64_in _ ⟨by omega, by omega⟩
      have u3 : IntKind.u64.wrap ((k : Int) * Sp + r) = (k : Int) * Sp + r := IntWalk.u64_in _ ⟨by omega, by omega⟩
      have UW := Lib.hid (show IntKind.u64.wrap ((k : Int) * Sp + (IntKind.u64.wrap a).tmod Sp) = (k : Int) * Sp + r by rw [IntWalk.u64_in a ⟨by omega, by omega⟩, hr, u3])
      have u4 : IntKind.u64.wrap ((k : Int) * Sp + Sp) = (k : Int) * Sp + Sp := IntWalk.u64_in _ ⟨by omega, by omega⟩
      have u5 : IntKind.u64.wrap ((k : Int) * Sp + Sp - 1) = (k : Int) * Sp + Sp - 1 := IntWalk.u64_in _ ⟨by omega, by omega⟩
      have S5 := Lib.hid sr
      clear sr hok hwd dv b4 b5
      go_wp2_with fail
      have s5 := S5.out
      go_loopw [7, 10] (fun x7 x10 wr => ∃ (i : Nat) (l : Ln) (now : Int) (gb : Nat → Nat), (i : Int) ≤ Sm ∧ x7 = .int .i64 (R + i) ∧ x10 = .int .i64 i ∧ St w None wr (One c now l gb bb [BlkR g 24 #[.int .i64 C, .int .u64 H, .int .i64 D, .int .u64 E, .int .i64 Sm, .int .u64 Sp]]) ∧ l.ok now (R + i) ∧ 0 ≤ now ∧ now ≤ (k : Int) * Sp + r ∧ Wd Sm Sp k i A (R + i) l) (fun _ x _ => Sm.toNat - (intOf x).toNat)
      case atStart => exact ⟨0, l, now, gb, by omega, by simp, rfl, s5, by simpa using HOK.out, hn0, by omega, by simpa using HWD.out⟩
      case round =>
        clear s5 S5 HOK HWD
        obtain ⟨i, l2, now2, gb2, hi, rfl, rfl, sr, hok, hq0, hq1, hwd⟩ := hrel
        have HOK := Lib.hid hok
        have HWD := Lib.hid hwd
        obtain ⟨-, -, -, -, b4, b5⟩ := (sr.blk (1 + 1 + 1 + 0) (il_x rfl)).six
        by_cases hli : (i : Int) < Sm
        · have d3 : decide ((i : Int) < Sm) = true := decide_eq_true hli
          have i0 : (0 : Int) ≤ (i : Int) := by omega
          have e5 : wr.drew.cell? ⟨g, 5, none⟩ = some (.int .u64 Sp) := (sr.drew.blk (1 + 1 + 1 + 0) (il_x rfl)).six.2.2.2.2.2
          have o5 := Ln.goOn_ok hok (show (0 : Int) ≤ (k : Int) * Sp + r by omega) hq1 (by omega)
          obtain ⟨rs, w6d⟩ := (hwd.goOn ((k : Int) * Sp + r) hok.p0).raise o5.p0 HDV.out hli o5.r0
          have C1 := Lib.hid (Raise1_o (R := R + i) (t := (k : Int) * Sp + r) sr.drew hok hq0 hq1 (by omega) (by omega))
          rw [rs] at C1
          have W6D := Lib.hid w6d
          have O6 := Lib.hid (Ln.raise_ok o5 (by omega) (by omega) (by omega))
          clear sr hok hwd o5 rs w6d
          go_wp2_with fail
          have pp := e5
          go_region_held3 (fun W => W.cell? ⟨g, 5, none⟩ = some (.int .u64 Sp)) (go_keep)
            (first
              | (go_at_call 11; rw [UW.out]; refine C1.out.mono ?_; rintro e' w6 ⟨rfl, g6, s6⟩; have q6 := (s6.blk (1 + 1 + 1 + 0) (il_x rfl)).six.2.2.2.2.2; have S6 := Lib.hid s6; clear s6))
          clear pp C1 b4 b5
          go_wp2_with fail
          go_roundw
          case rel =>
            have e1 : R + ((i + 1 : Nat) : Int) = R + i + 1 := by omega
            refine ⟨i + 1, _, _, g6, by omega, by rw [e1], by go_num, S6.out, by rw [e1]; exact O6.out, by omega, Int.le_refl _, by rw [e1]; exact W6D.out⟩
          case measure => simp [intOf]; omega
        obtain rfl : Sm = i := by omega
        have i0 : (0 : Int) ≤ (i : Int) := by omega
        have CA := Lib.hid (Ack1_o (R := R + i) (t := (k : Int) * Sp + Sp - 1) sr hok hq0 (by omega) (by omega) (by omega))
        clear sr hok hwd
        go_wp2_with fail
        refine CA.out.mono ?_
        rintro e wA ⟨x, f, rfl, l1, hl1, hf⟩
        have oA : l1.ok now2 (R + i) ∧ Wd i Sp k i A (R + i) l1 := by
          rcases hl1 with e | e
          · rw [e]; exact ⟨HOK.out, HWD.out⟩
          · rw [e]; exact ⟨Ln.fresh_ok HOK.out hq0, HWD.out.fresh⟩
        have eK : ((k + 1 : Nat) : Int) * Sp = (k : Int) * Sp + Sp := by rw [Int.natCast_add, Int.add_mul]; simp
        have oB := Ln.goOn_ok oA.1 (show (0 : Int) ≤ (k : Int) * Sp + Sp - 1 by omega) (by omega) (by omega)
        have wB := (oA.2.goOn ((k : Int) * Sp + Sp - 1) oA.1.p0)
        have sB := wB.sum
        unfold Ln.tot at sB
        have hB0 := oB.h0
        have hB1 := oB.p0
        rcases hf with ⟨rfl, hz, hx0, hxe, sA⟩ | ⟨rfl, rfl, hz, sA⟩
        · have OK2 := Lib.hid (Ln.ack_ok oB (show (0 : Int) ≤ (k : Int) * Sp + Sp - 1 by omega))
          have WD2 := Lib.hid ((wB.ack (t := (k : Int) * Sp + Sp - 1) oB.p0).next)
          have x1 : x ≤ 1000 := by omega
          have x2 : A ≤ 1000 := by omega
          rw [← hxe] at WD2
          have SA := Lib.hid sA
          have EK := Lib.hid eK
          clear CA hl1 oA oB wB sB hB0 hB1 hxe sA hz eK
          go_wp2_with fail
          go_roundw
          case rel => exact ⟨k + 1, _, _, R + i, A + x, gb2, by omega, rfl, by go_num, by go_num, SA.out, OK2.out, by omega, by rw [EK.out]; omega, WD2.out, by omega, by omega, by omega⟩
          case measure => simp [intOf]; omega
        · have OK2 := Lib.hid oA.1
          have WD2 := Lib.hid oA.2.next
          have SA := Lib.hid sA
          have EK := Lib.hid eK
          clear CA hl1 oA oB wB sB hB0 hB1 sA hz eK
          go_wp2_with fail
          go_roundw
          case rel => exact ⟨k + 1, _, _, R + i, A, gb2, by omega, rfl, rfl, by go_num, SA.out, OK2.out, hq0, by rw [EK.out]; omega, WD2.out, by omega, by omega, by omega⟩
          case measure => simp [intOf]; omega
    obtain rfl : k = 10 := by omega
    have CS := Lib.hid (State1_o sr)
    rw [hwd.ma] at CS
    have hsum := hwd.sum
    unfold Ln.tot at hsum
    obtain ⟨hh, hhe⟩ : ∃ hh, l.held = hh := ⟨_, rfl⟩
    obtain ⟨pp, hpe⟩ : ∃ pp, l.pends = pp := ⟨_, rfl⟩
    have x1 : 0 ≤ hh := by rw [← hhe]; exact hok.h0
    have x2 : 0 ≤ pp := by rw [← hpe]; exact hok.p0
    rw [hhe, hpe] at CS hsum
    have d4 : decide (A + hh + pp ≤ R) = true := decide_eq_true (by omega)
    clear sr hok hwd b4 b5
    go_wp2_with fail
    refine CS.out.mono ?_
    rintro e w8 ⟨rfl, s8⟩
    have S8 := Lib.hid s8.below
    clear s8 CS
    go_wp2_with fail
    go_ret
    exact ⟨rfl, S8.out⟩

set_option maxRecDepth 100000 in
theorem lifted (os : Os) (started : os.Started) (H : Type) (enc : TypeId × Value → H) :
    ReturnsInHanded {} Try.checked os 7 .any (Rows.irqWindowsSpec.pre6 enc Try.prog Try.f7 Rows.irqWindowsRow.domain false) (Rows.irqWindowsSpec.post enc Try.prog Try.f7 false true false false) := by
  refine law_lifted (C := Try.checked) (tb := 4) own started (by kernel_rfl) Try.func7
    (ChangeSpec.witness6 (enc := enc) (C := Try.checked) false ⟨#[], #[.agg #[.int .i64 0, .int .u64 0, .int .i64 0, .int .u64 0, .int .i64 0, .int .u64 0], .int .u8 0], []⟩ 8 (by kernel_rfl) (by kernel_rfl) (by kernel_rfl) (by kernel_rfl)) laid (by kernel_rfl) (by kernel_rfl) Try.underlying4 rfl ?_
  intro W base args ds ps hval0 hA0 hlt
  have hval : ∀ (j : Nat) t v, Try.f7.params[j]? = some t → args[j]? = some v → Value.okWide Try.prog W .any base t v := hval0
  have hA : DataW.TrodAll enc Try.prog W 0 (fun _ => true) true Try.f7.params.toList args.toList ds ps := hA0
  clear hA0 hval0
  rw [Try.params7] at hA hval
  obtain ⟨v0, vs0, d0, ds0, p0, q0, hargs, rfl, rfl, h0, r0⟩ := trodAll_cons hA
  obtain ⟨v1, vs1, d1, ds1, p1, q1, rfl, rfl, rfl, h1, r1⟩ := trodAll_cons r0
  obtain ⟨rfl, rfl, rfl⟩ := trodAll_nil r1
  obtain rfl : args = #[v0, v1] := by cases args; simp_all
  obtain ⟨cs0, rfl, sz0, ok0⟩ := open_flat (ts := [3, 22, 3, 22, 3, 22]) (Or.inl ⟨_, Try.underlying24⟩) (by kernel_rfl) (by kernel_rfl) (hval 0 24 v0 rfl rfl)
  obtain ⟨c0_0, c0_1, c0_2, c0_3, c0_4, c0_5, rfl⟩ := size6 sz0
  obtain ⟨a0_0, rfl, w0_0⟩ := cell_int Try.underlying3 (ok0 0 _ _ rfl rfl)
  obtain ⟨a0_1, rfl, w0_1⟩ := cell_int Try.underlying22 (ok0 1 _ _ rfl rfl)
  obtain ⟨a0_2, rfl, w0_2⟩ := cell_int Try.underlying3 (ok0 2 _ _ rfl rfl)
  obtain ⟨a0_3, rfl, w0_3⟩ := cell_int Try.underlying22 (ok0 3 _ _ rfl rfl)
  obtain ⟨a0_4, rfl, w0_4⟩ := cell_int Try.underlying3 (ok0 4 _ _ rfl rfl)
  obtain ⟨a0_5, rfl, w0_5⟩ := cell_int Try.underlying22 (ok0 5 _ _ rfl rfl)
  obtain ⟨a1, rfl, rfl, rfl, w1⟩ := open_int Try.underlying5 (hval 1 5 v1 rfl rfl) h1
  refine ⟨⟨rfl, rfl, rfl⟩, ?_⟩
  exact walk a0_0 a0_1 a0_2 a0_3 a0_4 a0_5 a1 W (bounds_u64 w0_1).1 (bounds_u8 w1)

theorem over : Rows.irqWindowsRow.holds Try.pinned (OpenSpec.ofChange Rows.irqWindowsSpec) :=
  OpenClaim.holds_of_wide 7 Try.f7 rfl rfl rfl rfl rfl rfl rfl ⟨rfl, rfl, rfl, rfl, rfl⟩ rfl rfl rfl rfl rfl (by kernel_rfl) Try.func7 (by kernel_rfl)
    (of_decide_eq_true (by kernel_rfl)) (by unfold Func.isWrapper; first | (rw [if_pos (by decide +kernel)]; kernel_rfl) | (rw [if_neg (by decide +kernel)]; exact ⟨rfl, rfl⟩))
    (fun os started H enc _ => lifted os started H enc)
theorem proved : Rows.IrqWindowsSaid := over
#print axioms proved
end Go.Proofs.Ytaoioejgealciaa.irqWindows
