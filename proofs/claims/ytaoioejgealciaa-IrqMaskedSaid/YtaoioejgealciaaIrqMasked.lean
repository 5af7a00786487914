/-
  For every line and every two 8-bit numbers IrqMasked answers true, and changes nothing: what is raised while a line is masked is nothing; what pended then pends again when it isn't. No condition.
-/
import Derived.Test.YtaoioejgealciaaRows
import Derived.Test.YtaoioejgealciaaFr
import Derived.Test.YtaoioejgealciaaIrqK
namespace Go.Proofs.Ytaoioejgealciaa.irqMasked
open Go.ChangeShapes Go.WideShapes Go.ChangeAt Go.RowKit
set_option linter.unusedVariables false
theorem own : ownKnob Try.prog.godebug = none := by kernel_rfl
theorem laid : laidOutB Try.prog = true := by kernel_rfl
set_option maxRecDepth 100000
set_option maxHeartbeats 1000000
theorem walk (C H D E Sm Sp a b : Int) (w : World) (hH : 0 ≤ H) (ba : 0 ≤ a ∧ a ≤ 255) (bb : 0 ≤ b ∧ b ≤ 255) :
    Calls Try.prog 6 #[.agg #[.int .i64 C, .int .u64 H, .int .i64 D, .int .u64 E, .int .i64 Sm, .int .u64 Sp], .int .u8 a, .int .u8 b] w fun r w' => r = .returned (.bool true) ∧ Below w.heap.size w w' := by
  have s0 : St w None _ [BlkR w.heap.size 24 #[.int .i64 C, .int .u64 H, .int .i64 D, .int .u64 E, .int .i64 Sm, .int .u64 Sp]] := (St.begin w).box 24 #[.int .i64 C, .int .u64 H, .int .i64 D, .int .u64 E, .int .i64 Sm, .int .u64 Sp]
  have S0 := Lib.hid s0
  clear s0
  by_cases hmay : mayL C H D E Sm Sp
  case neg =>
    have HM := Lib.hid hmay
    clear hmay
    go_enter Try.func6, Try.ntmps6
    go_wp2_with fail
    refine (awake_c _).mono ?_
    rintro e w1 ⟨rfl, hb1⟩
    have s1 := S0.out.stay hb1
    obtain ⟨c0, c1, c2, c3, c4, c5⟩ := (s1.blk 0 rfl).six
    have S1 := Lib.hid s1
    clear s1 hb1
    go_wp2_with fail
    refine (rmay_c C H D E Sm Sp _ false (decide_eq_false HM.out).symm hH).mono ?_
    rintro e w2 ⟨rfl, hb2⟩
    have S2 := Lib.hid (S1.out.stay hb2).below
    clear hb2 c0 c1 c2 c3 c4 c5
    go_wp2_with fail
    go_ret
    exact ⟨rfl, S2.out⟩
  have HM := Lib.hid hmay
  have HM2 := Lib.hid (show mayL C H D E 1000 Sp from ⟨hmay.1, hmay.2.1, by omega, hmay.2.2.2⟩)
  clear hmay
  obtain ⟨p, hp⟩ : ∃ p, Int.tmod a 30 = p := ⟨_, rfl⟩
  obtain ⟨q, hq⟩ : ∃ q, Int.tmod b 30 = q := ⟨_, rfl⟩
  have hp2 : 0 ≤ p ∧ p < 30 := by rw [← hp, Int.tmod_eq_emod_of_nonneg ba.1]; omega
  have hq2 : 0 ≤ q ∧ q < 30 := by rw [← hq, Int.tmod_eq_emod_of_nonneg bb.1]; omega
  obtain ⟨ba0, ba1⟩ := ba
  obtain ⟨bb0, bb1⟩ := bb
  have ep : a % 30 = p := by rw [← hp, Int.tmod_eq_emod_of_nonneg ba0]
  have eq2 : b % 30 = q := by rw [← hq, Int.tmod_eq_emod_of_nonneg bb0]
  go_enter Try.func6, Try.ntmps6
  go_wp2_with fail
  refine (awake_c _).mono ?_
  rintro e w1 ⟨rfl, hb1⟩
  have s1 := S0.out.stay hb1
  obtain ⟨c0, c1, c2, c3, c4, c5⟩ := (s1.blk 0 rfl).six
  have S1 := Lib.hid s1
  clear s1 hb1
  go_wp2_with fail
  refine (rmay_c C H D E Sm Sp _ true (decide_eq_true HM.out).symm hH).mono ?_
  rintro e w2 ⟨rfl, hb2⟩
  have s2 := S1.out.stay hb2
  clear hb2 c0 c1 c2 c3 c4 c5
  obtain ⟨c0, c1, c2, c3, c4, c5⟩ := (s2.blk 0 rfl).six
  have f4 := (s2.blk 0 rfl).frozen 4
  have s3 : St w None _ [BlkR w.heap.size 24 #[.int .i64 C, .int .u64 H, .int .i64 D, .int .u64 E, .int .i64 1000, .int .u64 Sp]] := s2.set_ 0 rfl 4 (.int .i64 1000)
  have N0 := (New1_o (s3.alloc (.cells #[.int .i64 C, .int .u64 H, .int .i64 D, .int .u64 E, .int .i64 1000, .int .u64 Sp] 24)) _ 1 _ (rdm_box _ 24 _ _ _ _ _ _) (C := C) (H := H) (D := D) (E := E) (Sm := 1000) (Sp := Sp) ⟨rfl, rfl, rfl, rfl, rfl, rfl⟩ HM2.out)
  rw [show (w2.setCell ⟨w.heap.size, 4, none⟩ (.int .i64 1000)).heap.size = w2.heap.size by simp [World.setCell]] at N0
  have N1 := Lib.hid N0
  clear s2 s3 N0
  go_wp2_with fail
  refine N1.out.mono ?_
  rintro e w4 ⟨c, gb, bb, rfl, s4⟩
  have s5 : St w None w4 (One c 0 (Ln.new C H D E 1000 Sp) gb bb []) := il_less (X := []) s4
  have S4 := Lib.hid s5
  clear s4 s5 N1 c0 c1 c2 c3 c4 c5 f4
  go_wp2_with fail
  have s5 := S4.out
  go_loopw [9] (fun x wr => ∃ (k : Nat) (l : Ln) (now : Int) (gb : Nat → Nat), (k : Int) ≤ p ∧ x = .int .i64 k ∧ St w None wr (One c now l gb bb []) ∧ l.ok now k ∧ 0 ≤ now ∧ now ≤ 5 ∧ ∃ h p', Tied 5 false h p' 1000 l) (fun x _ => p.toNat - (intOf x).toNat)
  case atStart => exact ⟨0, _, 0, gb, by omega, rfl, s5, Ln.new_ok HM2.out, by omega, by omega, 0, 0, Tied.new⟩
  case round =>
    clear s5 S4
    obtain ⟨k, l, now, gb, hk, rfl, sr, hok, hn0, hn5, h, pp, ht⟩ := hrel
    have HOK := Lib.hid hok
    have HT := Lib.hid ht
    by_cases hlt : (k : Int) < p
    · have d1 : decide ((k : Int) < p) = true := decide_eq_true hlt
      have k0 : (0 : Int) ≤ (k : Int) := by omega
      have C1 := Lib.hid (Raise1_o (R := k) (t := 5) sr hok hn0 hn5 (by omega) (by omega))
      clear sr hok ht
      go_wp2_with fail
      refine C1.out.mono ?_
      rintro e w5 ⟨rfl, g5, s5⟩
      have S5 := Lib.hid s5
      clear s5 C1
      go_wp2_with fail
      go_roundw
      case rel =>
        have o5 := Ln.goOn_ok HOK.out (show (0 : Int) ≤ 5 by omega) hn5 (by omega)
        have t5 := HT.out.goOn HOK.out
        obtain ⟨_, h', p', t6⟩ := t5.raise o5 (by omega) (by have := (Ln.count_ok o5 (by omega) (by omega)).rs; omega)
        have o6 := Ln.raise_ok o5 (by omega) (by omega) (by omega)
        exact ⟨k + 1, _, 5, g5, by omega, by go_num, S5.out, by exact_mod_cast o6, by omega, by omega, h', p', t6⟩
      case measure => simp [intOf]; omega
    obtain rfl : p = k := by omega
    have CS := Lib.hid (State1_o sr)
    rw [ht.hd, ht.pe, ht.ma] at CS
    clear sr hok ht
    go_wp2_with fail
    refine CS.out.mono ?_
    rintro e w5 ⟨rfl, s5⟩
    have CM := Lib.hid (Mask1_o (R := (k : Int)) (t := 5) true s5 HOK.out hn0 hn5 (by omega))
    have o5 := Ln.goOn_ok HOK.out (show (0 : Int) ≤ 5 by omega) hn5 (by omega)
    have o6 := Lib.hid (Ln.mask_ok o5 (by omega) true)
    have t6 := Lib.hid ((HT.out.goOn HOK.out).mask (by have := o5.b.1; omega) true)
    clear s5 CS o5
    go_wp2_with fail
    refine CM.out.mono ?_
    rintro e w6 ⟨rfl, s6⟩
    have S6 := Lib.hid s6
    clear s6 CM HOK HT
    generalize (l.goOn 5).mask 5 true = l6 at *
    go_wp2_with fail
    have s6 := S6.out
    go_loopw [13] (fun x wr => ∃ (j : Nat) (l : Ln) (gb : Nat → Nat), (j : Int) ≤ q ∧ x = .int .i64 j ∧ St w None wr (One c 5 l gb bb []) ∧ l.ok 5 k ∧ Tied 5 true h pp 1000 l) (fun x _ => q.toNat - (intOf x).toNat)
    case atStart => exact ⟨0, _, gb, by omega, rfl, s6, o6.out, t6.out⟩
    case round =>
      clear s6 S6 o6 t6
      obtain ⟨j, l7, gb7, hj, rfl, sr, hok, ht⟩ := hrel
      have HOK := Lib.hid hok
      have HT := Lib.hid ht
      have o7 := Ln.goOn_ok hok (show (0 : Int) ≤ 5 by omega) (Int.le_refl _) (by omega)
      have t7 := ht.goOn hok
      by_cases hlt : (j : Int) < q
      · have d1 : decide ((j : Int) < q) = true := decide_eq_true hlt
        have k0 : (0 : Int) ≤ (j : Int) := by omega
        have C1 := Lib.hid (Raise1_o (R := k) (t := 5) sr hok (by omega) (Int.le_refl _) (by omega) (by omega))
        rw [t7.raise_masked] at C1
        have O7 := Lib.hid o7
        have T7 := Lib.hid t7
        clear sr hok ht o7 t7
        go_wp2_with fail
        refine C1.out.mono ?_
        rintro e w7 ⟨rfl, g7, s7⟩
        have S7 := Lib.hid s7
        clear s7 C1
        go_wp2_with fail
        go_roundw
        case rel => exact ⟨j + 1, _, g7, by omega, by go_num, S7.out, O7.out, T7.out⟩
        case measure => simp [intOf]; omega
      obtain rfl : q = j := by omega
      have CS := Lib.hid (State1_o sr)
      rw [ht.hd, ht.pe, ht.ma] at CS
      clear sr hok ht o7 t7
      go_wp2_with fail
      refine CS.out.mono ?_
      rintro e w8 ⟨rfl, s8⟩
      have CP := Lib.hid (Pending1_o s8)
      clear s8 CS
      go_wp2_with fail
      refine CP.out.mono ?_
      rintro e w9 ⟨x, y, ok, rfl, hp9, s9⟩
      obtain ⟨rfl, rfl, rfl⟩ : x = 0 ∧ y = 0 ∧ ok = false := by
        rcases hp9 with ⟨_, _, _, hz, _⟩ | ⟨h1, h2, h3, _⟩
        · rw [HT.out.ma] at hz; cases hz
        · exact ⟨h1, h2, h3⟩
      have CA := Lib.hid (Ack1_o (R := (k : Int)) (t := 5) s9 HOK.out (by omega) (Int.le_refl _) (by omega) (by omega))
      clear s9 CP hp9
      go_wp2_with fail
      refine CA.out.mono ?_
      rintro e wA ⟨x, f, rfl, l1, hl1, hf⟩
      obtain ⟨rfl, rfl, sA⟩ : f = 12 ∧ x = 0 ∧ St w None wA (One c 5 l1 gb7 bb []) := by
        rcases hf with ⟨_, hz, _⟩ | ⟨h1, h2, _, h4⟩
        · rw [HT.out.ma] at hz; cases hz
        · exact ⟨h1, h2, h4⟩
      have oA : l1.ok 5 k ∧ Tied 5 true h pp 1000 l1 := by
        rcases hl1 with e | e
        · rw [e]; exact ⟨HOK.out, HT.out⟩
        · rw [e]; exact ⟨Ln.fresh_ok HOK.out (by omega), HT.out.fresh HOK.out⟩
      have oB := Ln.goOn_ok oA.1 (show (0 : Int) ≤ 5 by omega) (Int.le_refl _) (by omega)
      have tB := Lib.hid ((oA.2.goOn oA.1).mask (by have := oB.b.1; omega) false)
      have CM := Lib.hid (Mask1_o (R := (k : Int)) (t := 5) false sA oA.1 (by omega) (Int.le_refl _) (by omega))
      clear sA CA hl1 hf oA oB HOK HT
      go_wp2_with fail
      refine CM.out.mono ?_
      rintro e wB ⟨rfl, sB⟩
      have CP := Lib.hid (Pending1_o sB)
      clear sB CM
      go_wp2_with fail
      refine CP.out.mono ?_
      rintro e wC ⟨x, y, ok, rfl, hpC, sC⟩
      have SC := Lib.hid sC.below
      clear sC CP
      unfold Pend1P at hpC
      rw [tB.out.pe, tB.out.ma] at hpC
      rcases hpC with ⟨rfl, rfl, rfl, -, hpos⟩ | ⟨rfl, rfl, rfl, hno⟩
      · have d2 : decide (0 < y) = true := decide_eq_true hpos
        clear tB hpos
        go_wp2_with fail
        go_ret
        exact ⟨rfl, SC.out⟩
      · have d2 : decide (0 < pp) = false := decide_eq_false fun h => hno ⟨rfl, h⟩
        clear tB hno
        go_wp2_with fail
        go_ret
        exact ⟨rfl, SC.out⟩

set_option maxRecDepth 100000 in
theorem lifted (os : Os) (started : os.Started) (H : Type) (enc : TypeId × Value → H) :
    ReturnsInHanded {} Try.checked os 6 .any (Rows.irqMaskedSpec.pre6 enc Try.prog Try.f6 Rows.irqMaskedRow.domain false) (Rows.irqMaskedSpec.post enc Try.prog Try.f6 false true false false) := by
  refine law_lifted (C := Try.checked) (tb := 4) own started (by kernel_rfl) Try.func6
    (ChangeSpec.witness6 (enc := enc) (C := Try.checked) false ⟨#[], #[.agg #[.int .i64 0, .int .u64 0, .int .i64 0, .int .u64 0, .int .i64 0, .int .u64 0], .int .u8 0, .int .u8 0], []⟩ 8 (by kernel_rfl) (by kernel_rfl) (by kernel_rfl) (by kernel_rfl)) laid (by kernel_rfl) (by kernel_rfl) Try.underlying4 rfl ?_
  intro W base args ds ps hval0 hA0 hlt
  have hval : ∀ (j : Nat) t v, Try.f6.params[j]? = some t → args[j]? = some v → Value.okWide Try.prog W .any base t v := hval0
  have hA : DataW.TrodAll enc Try.prog W 0 (fun _ => true) true Try.f6.params.toList args.toList ds ps := hA0
  clear hA0 hval0
  rw [Try.params6] at hA hval
  obtain ⟨v0, vs0, d0, ds0, p0, q0, hargs, rfl, rfl, h0, r0⟩ := trodAll_cons hA
  obtain ⟨v1, vs1, d1, ds1, p1, q1, rfl, rfl, rfl, h1, r1⟩ := trodAll_cons r0
  obtain ⟨v2, vs2, d2, ds2, p2, q2, rfl, rfl, rfl, h2, r2⟩ := trodAll_cons r1
  obtain ⟨rfl, rfl, rfl⟩ := trodAll_nil r2
  obtain rfl : args = #[v0, v1, v2] := by cases args; simp_all
  obtain ⟨cs0, rfl, sz0, ok0⟩ := open_flat (ts := [3, 22, 3, 22, 3, 22]) (Or.inl ⟨_, Try.underlying24⟩) (by kernel_rfl) (by kernel_rfl) (hval 0 24 v0 rfl rfl)
  obtain ⟨c0_0, c0_1, c0_2, c0_3, c0_4, c0_5, rfl⟩ := size6 sz0
  obtain ⟨a0_0, rfl, w0_0⟩ := cell_int Try.underlying3 (ok0 0 _ _ rfl rfl)
  obtain ⟨a0_1, rfl, w0_1⟩ := cell_int Try.underlying22 (ok0 1 _ _ rfl rfl)
  obtain ⟨a0_2, rfl, w0_2⟩ := cell_int Try.underlying3 (ok0 2 _ _ rfl rfl)
  obtain ⟨a0_3, rfl, w0_3⟩ := cell_int Try.underlying22 (ok0 3 _ _ rfl rfl)
  obtain ⟨a0_4, rfl, w0_4⟩ := cell_int Try.underlying3 (ok0 4 _ _ rfl rfl)
  obtain ⟨a0_5, rfl, w0_5⟩ := cell_int Try.underlying22 (ok0 5 _ _ rfl rfl)
  obtain ⟨a1, rfl, rfl, rfl, w1⟩ := open_int Try.underlying5 (hval 1 5 v1 rfl rfl) h1
  obtain ⟨a2, rfl, rfl, rfl, w2⟩ := open_int Try.underlying5 (hval 2 5 v2 rfl rfl) h2
  refine ⟨⟨rfl, rfl, rfl⟩, ?_⟩
  exact walk a0_0 a0_1 a0_2 a0_3 a0_4 a0_5 a1 a2 W (bounds_u64 w0_1).1 (bounds_u8 w1) (bounds_u8 w2)

theorem over : Rows.irqMaskedRow.holds Try.pinned (OpenSpec.ofChange Rows.irqMaskedSpec) :=
  OpenClaim.holds_of_wide 6 Try.f6 rfl rfl rfl rfl rfl rfl rfl ⟨rfl, rfl, rfl, rfl, rfl⟩ rfl rfl rfl rfl rfl (by kernel_rfl) Try.func6 (by kernel_rfl)
    (of_decide_eq_true (by kernel_rfl)) (by unfold Func.isWrapper; first | (rw [if_pos (by decide +kernel)]; kernel_rfl) | (rw [if_neg (by decide +kernel)]; exact ⟨rfl, rfl⟩))
    (fun os started H enc _ => lifted os started H enc)
theorem proved : Rows.IrqMaskedSaid := over
#print axioms proved
end Go.Proofs.Ytaoioejgealciaa.irqMasked
