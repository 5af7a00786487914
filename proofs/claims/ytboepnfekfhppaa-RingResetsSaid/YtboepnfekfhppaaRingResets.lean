/-
  For every size and all scripts RingResets answers true, and changes nothing: a reset tells all that weren't reaped, and behind it the ring is like a new one. No condition.
-/
import Derived.Test.YtboepnfekfhppaaRows
import Derived.Test.YtboepnfekfhppaaFr
import Derived.Test.YtboepnfekfhppaaRingX
import Derived.Test.YtboepnfekfhppaaOpen
namespace Go.Proofs.Ytboepnfekfhppaa.ringResets
open Go.ChangeShapes Go.WideShapes Go.ChangeAt Go.RowKit
set_option linter.unusedVariables false
theorem own : ownKnob Try.prog.godebug = none := by kernel_rfl
theorem laid : laidOutB Try.prog = true := by kernel_rfl
set_option maxRecDepth 100000
set_option maxHeartbeats 4000000
theorem walk (a : Int) (A B : Option Addr) (q cap m capB : Nat) (E F : Nat → RDo) (w : World) (ba : 0 ≤ a ∧ a ≤ 255) (hq : q ≤ maxLen) (hm : m ≤ maxLen) (rd : Rs w A q E) (rdB : Rs w B m F) :
    Calls Try.prog 5 #[.int .u8 a, .agg #[.slice A q cap, .slice B m capB]] w fun r w' => r = .returned (.bool true) ∧ Below w.heap.size w w' := by
  unfold maxLen at hq hm
  obtain ⟨n, hN⟩ : ∃ n : Nat, 1 + a % 64 = (n : Int) := ⟨(1 + a % 64).toNat, by omega⟩
  have h0 : 1 ≤ n := by omega
  have hn : n ≤ 64 := by omega
  have RD := Lib.hid rd
  have RB := Lib.hid rdB
  have HN := Lib.hid hN
  have s0 : St w None (w.alloc (.cells #[.slice A q cap, .slice B m capB] 54)) [BlkR w.heap.size 54 #[.slice A q cap, .slice B m capB]] := (St.begin w).box _ _
  have S0 := Lib.hid s0
  clear rd rdB hN s0
  go_enter Try.func5, Try.ntmps5
  go_wp2_with fail
  refine (awake_o S0.out).mono ?_
  rintro r w1 ⟨rfl, s1⟩
  obtain ⟨k0, k1⟩ := (s1.blk 0 rfl).two
  have S1 := Lib.hid s1
  clear s1 S0
  go_wp2_with fail
  rw [HN.out]
  refine (New_o S1.out h0 hn).mono ?_
  rintro r w2 ⟨p, rfl, s2⟩
  have S2 := Lib.hid s2
  clear s2 S1 k0 k1
  go_wp2_with fail
  refine (New_o S2.out h0 hn).mono ?_
  rintro r w3 ⟨p', rfl, s3'⟩
  have s3 : St w None w3 [BlkR w.heap.size 54 #[.slice A q cap, .slice B m capB], RingR p n RSt.new, RingR p' n RSt.new] := s3'
  have S3 := Lib.hid (show St w None w3 [RingR p n RSt.new, RingR p' n RSt.new] from s3.drop 0 (by simp))
  clear s3 s3' S2
  go_wp2_with fail
  go_loopw [12] (fun i wr => ∃ (k : Nat) (s : RSt), k ≤ q ∧ k ≤ 150 ∧ i = .int .i64 k ∧ s.ok n ∧ s.fine ∧ s.put ≤ k ∧ St w None wr [RingR p n s, RingR p' n RSt.new]) (fun i _ => q - (intOf i).toNat)
  case atStart => exact ⟨0, RSt.new, by omega, by omega, rfl, RSt.new_ok h0 hn, RSt.new_fine, Nat.le_refl _, S3.out⟩
  case round =>
    clear S3
    obtain ⟨k, s, hk, hk2, rfl, hok, hfine, hput, sr⟩ := hrel
    have OK := Lib.hid hok
    have FN := Lib.hid hfine
    have SR := Lib.hid sr
    by_cases hgo : k < q ∧ k < 150
    · obtain ⟨hlt, hlt2⟩ := hgo
      have hbl := sr.below
      clear hok hfine sr
      obtain ⟨ib, off, rfl, e0, e1, e2, e3, e4, e5, e6, e7, e8, e9, e10, e11⟩ := RD.out.at_ hbl hlt
      have FIT := Lib.hid (RD.out.fits k hlt)
      clear hbl
      generalize E k = x at *
      obtain ⟨o, f, s', hP⟩ := stepP_ex OK.out x
      have HO := Lib.hid (hP.fine_ok OK.out FN.out (by omega))
      have ST := Lib.hid (step_o SR.out 0 rfl OK.out x FIT.out o f hP (by omega))
      clear hP
      go_wp2_with fail
      refine ST.out.mono ?_
      rintro r' w6 ⟨rfl, s6⟩
      go_wp2_with fail
      go_roundw
      case rel => exact ⟨k + 1, s', by omega, by omega, by go_num, HO.out.1, HO.out.2.1, by have := HO.out.2.2; omega, s6⟩
      case measure => simp [intOf]; omega
    have hgo' : (decide ((k : Int) < (q : Int)) = false ∧ decide (k < q) = false) ∨ ((decide ((k : Int) < (q : Int)) = true ∧ decide (k < q) = true) ∧ decide ((k : Int) < 150) = false ∧ decide (k < 150) = false) := by
      by_cases h1 : k < q
      · exact Or.inr ⟨⟨decide_eq_true (by omega), decide_eq_true h1⟩, decide_eq_false (by omega), decide_eq_false (by omega)⟩
      · exact Or.inl ⟨decide_eq_false (by omega), decide_eq_false h1⟩
    have hpr : s.reaped ≤ s.put := Nat.le_trans hok.r hok.t
    have hpm := hok.m
    obtain ⟨d, hd⟩ : ∃ d, s.put - s.reaped = d := ⟨_, rfl⟩
    have hw : IntKind.i64.wrap ((s.put : Int) - (s.reaped : Int)) = (d : Int) := by rw [IntWalk.i64_in _ ⟨by omega, by omega⟩]; omega
    have hw6 : wrap64 ((s.put : Int) - (s.reaped : Int)) = (d : Int) := by rw [IntWalk.wrap64_in _ ⟨by omega, by omega⟩]; omega
    have CN := Lib.hid (Counts_o SR.out 0 rfl)
    have HD := Lib.hid hd
    clear hok hfine sr hpr hpm hput hgo hd
    rcases hgo' with ⟨g1, g1'⟩ | ⟨⟨g1, g1'⟩, g2, g2'⟩
    all_goals
      go_wp2_with fail
      refine CN.out.mono ?_
      rintro r' w4 ⟨rfl, s4⟩
      have RS1 := Lib.hid (Reset_o s4 0 rfl OK.out d HD.out.symm)
      clear s4 CN
      go_wp2_with fail
      refine RS1.out.mono ?_
      rintro r' w5 ⟨x5, rfl, s5⟩
      have RS2 := Lib.hid (Reset_o s5 0 rfl (RSt.new_ok h0 hn) 0 rfl)
      clear s5 RS1
      go_wp2_with fail
      refine RS2.out.mono ?_
      rintro r' w6 ⟨x6, rfl, s6⟩
      have S6 := Lib.hid (show St w None w6 [RingR p n RSt.new, RingR p' n RSt.new] from s6.take 2)
      clear s6 RS2
      go_wp2_with fail
      go_loopw [17] (fun i wr => ∃ (j : Nat) (t : RSt), j ≤ m ∧ j ≤ 150 ∧ i = .int .i64 j ∧ t.ok n ∧ t.fine ∧ t.put ≤ j ∧ St w None wr [RingR p n t, RingR p' n t]) (fun i _ => m - (intOf i).toNat)
      case atStart => exact ⟨0, RSt.new, by omega, by omega, rfl, RSt.new_ok h0 hn, RSt.new_fine, Nat.le_refl _, S6.out⟩
      case round =>
        clear S6
        obtain ⟨j, t, hj, hj2, rfl, htok, htfine, htput, st⟩ := hrel
        have TOK := Lib.hid htok
        have TFN := Lib.hid htfine
        have TR := Lib.hid st
        by_cases hgo2 : j < m ∧ j < 150
        · obtain ⟨hlt, hlt2⟩ := hgo2
          have hbl := st.below
          clear htok htfine st
          obtain ⟨jb, joff, rfl, e0, e1, e2, e3, e4, e5, e6, e7, e8, e9, e10, e11⟩ := RB.out.at_ hbl hlt
          have FIT := Lib.hid (RB.out.fits j hlt)
          have RC := Lib.hid (fun wr hb => RB.out.same12 (wr := wr) hb hlt)
          clear hbl
          generalize F j = x at *
          obtain ⟨o, f, t', hP⟩ := stepP_ex TOK.out x
          have HO := Lib.hid (hP.fine_ok TOK.out TFN.out (by omega))
          have ST := Lib.hid (step_o TR.out 0 rfl TOK.out x FIT.out o f hP (by omega))
          have HP := Lib.hid hP
          have PUT := Lib.hid (show t.put + 1 ≤ 1000000 by omega)
          clear hP
          go_wp2_with fail
          refine ST.out.mono ?_
          rintro r' w7 ⟨rfl, s7⟩
          have s8 : St w None (w7.alloc (.cells o.cells 36)) [RingR p n t', RingR p' n t, BlkR w7.heap.size 36 o.cells] := St.box (L := [_, _]) s7 _ _
          clear e0 e1 e2 e3 e4 e5 e6 e7 e8 e9 e10 e11
          obtain ⟨e0, e1, e2, e3, e4, e5, e6, e7, e8, e9, e10, e11⟩ := RC.out _ s8.below
          have S8 := Lib.hid s8
          have ST2 := Lib.hid (step_o s8 1 rfl TOK.out x FIT.out o f HP.out PUT.out)
          clear s7 s8 ST
          unfold Dsc.cells at e0 e1 e2 e3 e4 e5 e6 e7 e8 e9 e10 e11 ST2
          unfold Dsc.v
          go_wp2_with fail
          refine ST2.out.mono ?_
          rintro r' w9 ⟨rfl, s9⟩
          have s10 : St w None (w9.alloc (.cells o.cells 36)) [RingR p n t', RingR p' n t', BlkR w7.heap.size 36 o.cells, BlkR w9.heap.size 36 o.cells] := St.box (L := [_, _, _]) s9 _ _
          obtain ⟨c0, c1, c2, c3, c4, c5, c6, c7, c8⟩ := dsc9 _ _ _ (s10.blk 2 rfl)
          obtain ⟨y0, y1, y2, y3, y4, y5, y6, y7, y8⟩ := dsc9 _ _ _ (s10.blk 3 rfl)
          have S10 := Lib.hid (s10.take 2)
          clear s9 s10 ST2 e0 e1 e2 e3 e4 e5 e6 e7 e8 e9 e10 e11
          unfold Dsc.cells at c0 c1 c2 c3 c4 c5 c6 c7 c8 y0 y1 y2 y3 y4 y5 y6 y7 y8 S10
          unfold Dsc.v
          go_wp2_with fail
          go_roundw
          case rel => exact ⟨j + 1, t', by omega, by omega, by go_num, HO.out.1, HO.out.2.1, by have := HO.out.2.2; omega, S10.out⟩
          case measure => simp [intOf]; omega
        have hgo3 : (decide ((j : Int) < (m : Int)) = false ∧ decide (j < m) = false) ∨ ((decide ((j : Int) < (m : Int)) = true ∧ decide (j < m) = true) ∧ decide ((j : Int) < 150) = false ∧ decide (j < 150) = false) := by
          by_cases h1 : j < m
          · exact Or.inr ⟨⟨decide_eq_true (by omega), decide_eq_true h1⟩, decide_eq_false (by omega), decide_eq_false (by omega)⟩
          · exact Or.inl ⟨decide_eq_false (by omega), decide_eq_false h1⟩
        have R1 := Lib.hid (Reset_o TR.out 0 rfl TOK.out _ rfl)
        clear htok htfine st hgo2 htput
        rcases hgo3 with ⟨v1, v1'⟩ | ⟨⟨v1, v1'⟩, v2, v2'⟩
        all_goals
          go_wp2_with fail
          refine R1.out.mono ?_
          rintro r' w7 ⟨x7, rfl, s7⟩
          have R2 := Lib.hid (Reset_o s7 1 rfl TOK.out _ rfl)
          clear s7 R1
          go_wp2_with fail
          refine R2.out.mono ?_
          rintro r' w8 ⟨x8, rfl, s8⟩
          have R3 := Lib.hid (Same_c (s8.lis 2 rfl) (s8.lis 3 rfl))
          have S8 := Lib.hid s8
          clear s8 R2
          go_wp2_with fail
          refine R3.out.mono ?_
          rintro r' w9 ⟨rfl, hb9⟩
          go_wp2_with fail
          go_ret
          exact ⟨rfl, (S8.out.stay hb9).below⟩

set_option maxRecDepth 100000 in
theorem lifted (os : Os) (started : os.Started) (H : Type) (enc : TypeId × Value → H) :
    ReturnsInHanded {} Try.checked os 5 .any (Rows.ringResetsSpec.pre6 enc Try.prog Try.f5 Rows.ringResetsRow.domain false) (Rows.ringResetsSpec.post enc Try.prog Try.f5 false true false false) := by
  refine law_lifted (C := Try.checked) (tb := 4) own started (by kernel_rfl) Try.func5
    (ChangeSpec.witness6 (enc := enc) (C := Try.checked) false ⟨#[], #[.int .u8 0, .agg #[.slice none 0 0, .slice none 0 0]], []⟩ 8 (by kernel_rfl) (by kernel_rfl) (by kernel_rfl) (by kernel_rfl)) laid (by kernel_rfl) (by kernel_rfl) Try.underlying4 rfl ?_
  intro W base args ds ps hval0 hA0 hlt
  have hval : ∀ (j : Nat) t v, Try.f5.params[j]? = some t → args[j]? = some v → Value.okWide Try.prog W .any base t v := hval0
  have hA : DataW.TrodAll enc Try.prog W 0 (fun _ => true) true Try.f5.params.toList args.toList ds ps := hA0
  clear hA0 hval0
  rw [Try.params5] at hA hval
  obtain ⟨v0, vs0, d0, ds0, p0, q0, hargs, rfl, rfl, h0, r0⟩ := trodAll_cons hA
  obtain ⟨v1, vs1, d1, ds1, p1, q1, rfl, rfl, rfl, h1, r1⟩ := trodAll_cons r0
  obtain ⟨rfl, rfl, rfl⟩ := trodAll_nil r1
  obtain rfl : args = #[v0, v1] := by cases args; simp_all
  obtain ⟨a0, rfl, rfl, rfl, w0⟩ := open_int Try.underlying5 (hval 0 5 v0 rfl rfl) h0
  obtain ⟨cs1, rfl, sz1, lf1⟩ := open_agg_spots (d := 20) (l := [(0, 22), (1, 22)]) (Or.inr ⟨_, _, Try.underlying54⟩) (by kernel_rfl) (hval 1 54 v1 rfl rfl) h1
  obtain ⟨c1_0, c1_1, rfl⟩ := size2 (sz1.trans (by kernel_rfl))
  obtain ⟨A1_0, n1_0, cap1_0, V1_0, rfl, le1_0, mx1_0, rd1_0, lf1_0⟩ := leaf_slice (m := 12) (d := 20) (l := [(0, 3), (1, 3), (2, 3), (3, 3), (4, 32), (5, 3), (6, 3), (7, 4), (8, 4), (9, 3), (10, 3), (11, 3)]) Try.underlying22 (by kernel_rfl) (by decide) (by kernel_rfl) (lf1 0 22 (by simp) _ rfl)
  have f1_0_0 := fun j hj => leaf_int Try.underlying3 (lf1_0 0 3 (by simp) j hj)
  have f1_0_1 := fun j hj => leaf_int Try.underlying3 (lf1_0 1 3 (by simp) j hj)
  have f1_0_2 := fun j hj => leaf_int Try.underlying3 (lf1_0 2 3 (by simp) j hj)
  have f1_0_3 := fun j hj => leaf_int Try.underlying3 (lf1_0 3 3 (by simp) j hj)
  have f1_0_4 := fun j hj => leaf_int Try.underlying32 (lf1_0 4 32 (by simp) j hj)
  have f1_0_5 := fun j hj => leaf_int Try.underlying3 (lf1_0 5 3 (by simp) j hj)
  have f1_0_6 := fun j hj => leaf_int Try.underlying3 (lf1_0 6 3 (by simp) j hj)
  have f1_0_7 := fun j hj => leaf_bool Try.underlying4 (lf1_0 7 4 (by simp) j hj)
  have f1_0_8 := fun j hj => leaf_bool Try.underlying4 (lf1_0 8 4 (by simp) j hj)
  have f1_0_9 := fun j hj => leaf_int Try.underlying3 (lf1_0 9 3 (by simp) j hj)
  have f1_0_10 := fun j hj => leaf_int Try.underlying3 (lf1_0 10 3 (by simp) j hj)
  have f1_0_11 := fun j hj => leaf_int Try.underlying3 (lf1_0 11 3 (by simp) j hj)
  obtain ⟨A1_1, n1_1, cap1_1, V1_1, rfl, le1_1, mx1_1, rd1_1, lf1_1⟩ := leaf_slice (m := 12) (d := 20) (l := [(0, 3), (1, 3), (2, 3), (3, 3), (4, 32), (5, 3), (6, 3), (7, 4), (8, 4), (9, 3), (10, 3), (11, 3)]) Try.underlying22 (by kernel_rfl) (by decide) (by kernel_rfl) (lf1 1 22 (by simp) _ rfl)
  have f1_1_0 := fun j hj => leaf_int Try.underlying3 (lf1_1 0 3 (by simp) j hj)
  have f1_1_1 := fun j hj => leaf_int Try.underlying3 (lf1_1 1 3 (by simp) j hj)
  have f1_1_2 := fun j hj => leaf_int Try.underlying3 (lf1_1 2 3 (by simp) j hj)
  have f1_1_3 := fun j hj => leaf_int Try.underlying3 (lf1_1 3 3 (by simp) j hj)
  have f1_1_4 := fun j hj => leaf_int Try.underlying32 (lf1_1 4 32 (by simp) j hj)
  have f1_1_5 := fun j hj => leaf_int Try.underlying3 (lf1_1 5 3 (by simp) j hj)
  have f1_1_6 := fun j hj => leaf_int Try.underlying3 (lf1_1 6 3 (by simp) j hj)
  have f1_1_7 := fun j hj => leaf_bool Try.underlying4 (lf1_1 7 4 (by simp) j hj)
  have f1_1_8 := fun j hj => leaf_bool Try.underlying4 (lf1_1 8 4 (by simp) j hj)
  have f1_1_9 := fun j hj => leaf_int Try.underlying3 (lf1_1 9 3 (by simp) j hj)
  have f1_1_10 := fun j hj => leaf_int Try.underlying3 (lf1_1 10 3 (by simp) j hj)
  have f1_1_11 := fun j hj => leaf_int Try.underlying3 (lf1_1 11 3 (by simp) j hj)
  refine ⟨⟨rfl, rfl, rfl⟩, ?_⟩
  obtain ⟨E, hE⟩ := Go.Deep.choose_lt (n := n1_0) (p := fun j (x : RDo) => (∀ i, i < 12 → V1_0 j i = x.v i) ∧ x.d.fits) (fun j hj => by
    obtain ⟨x0, h0, w0⟩ := f1_0_0 j hj
    obtain ⟨x1, h1, w1⟩ := f1_0_1 j hj
    obtain ⟨x2, h2, w2⟩ := f1_0_2 j hj
    obtain ⟨x3, h3, w3⟩ := f1_0_3 j hj
    obtain ⟨x4, h4, w4⟩ := f1_0_4 j hj
    obtain ⟨x5, h5, w5⟩ := f1_0_5 j hj
    obtain ⟨x6, h6, w6⟩ := f1_0_6 j hj
    obtain ⟨x7, h7⟩ := f1_0_7 j hj
    obtain ⟨x8, h8⟩ := f1_0_8 j hj
    obtain ⟨x9, h9, w9⟩ := f1_0_9 j hj
    obtain ⟨x10, h10, -⟩ := f1_0_10 j hj
    obtain ⟨x11, h11, -⟩ := f1_0_11 j hj
    refine ⟨⟨x0, ⟨x1, x2, x3, x4, x5, x6, x7, x8, x9⟩, x10, x11⟩, fun i hi => ?_, bounds_i64 w1, bounds_i64 w2, bounds_i64 w3, bounds_u64 w4, bounds_i64 w5, bounds_i64 w6, bounds_i64 w9⟩
    match i, hi with
    | 0, _ => exact h0
    | 1, _ => exact h1
    | 2, _ => exact h2
    | 3, _ => exact h3
    | 4, _ => exact h4
    | 5, _ => exact h5
    | 6, _ => exact h6
    | 7, _ => exact h7
    | 8, _ => exact h8
    | 9, _ => exact h9
    | 10, _ => exact h10
    | 11, _ => exact h11)
  obtain ⟨E2, hE2⟩ := Go.Deep.choose_lt (n := n1_1) (p := fun j (x : RDo) => (∀ i, i < 12 → V1_1 j i = x.v i) ∧ x.d.fits) (fun j hj => by
    obtain ⟨x0, h0, w0⟩ := f1_1_0 j hj
    obtain ⟨x1, h1, w1⟩ := f1_1_1 j hj
    obtain ⟨x2, h2, w2⟩ := f1_1_2 j hj
    obtain ⟨x3, h3, w3⟩ := f1_1_3 j hj
    obtain ⟨x4, h4, w4⟩ := f1_1_4 j hj
    obtain ⟨x5, h5, w5⟩ := f1_1_5 j hj
    obtain ⟨x6, h6, w6⟩ := f1_1_6 j hj
    obtain ⟨x7, h7⟩ := f1_1_7 j hj
    obtain ⟨x8, h8⟩ := f1_1_8 j hj
    obtain ⟨x9, h9, w9⟩ := f1_1_9 j hj
    obtain ⟨x10, h10, -⟩ := f1_1_10 j hj
    obtain ⟨x11, h11, -⟩ := f1_1_11 j hj
    refine ⟨⟨x0, ⟨x1, x2, x3, x4, x5, x6, x7, x8, x9⟩, x10, x11⟩, fun i hi => ?_, bounds_i64 w1, bounds_i64 w2, bounds_i64 w3, bounds_u64 w4, bounds_i64 w5, bounds_i64 w6, bounds_i64 w9⟩
    match i, hi with
    | 0, _ => exact h0
    | 1, _ => exact h1
    | 2, _ => exact h2
    | 3, _ => exact h3
    | 4, _ => exact h4
    | 5, _ => exact h5
    | 6, _ => exact h6
    | 7, _ => exact h7
    | 8, _ => exact h8
    | 9, _ => exact h9
    | 10, _ => exact h10
    | 11, _ => exact h11)
  exact walk a0 A1_0 A1_1 n1_0 cap1_0 n1_1 cap1_1 E E2 W (bounds_u8 w0) (by omega) (by omega) ⟨fun h => by
    obtain ⟨b, off, e, hb, hc⟩ := rd1_0 h
    exact ⟨b, off, e, hb, fun j hj i hi => by rw [hc j hj i hi, (hE j hj).1 i hi]⟩, fun j hj => (hE j hj).2⟩ ⟨fun h => by
    obtain ⟨b, off, e, hb, hc⟩ := rd1_1 h
    exact ⟨b, off, e, hb, fun j hj i hi => by rw [hc j hj i hi, (hE2 j hj).1 i hi]⟩, fun j hj => (hE2 j hj).2⟩

theorem over : Rows.ringResetsRow.holds Try.pinned (OpenSpec.ofChange Rows.ringResetsSpec) :=
  OpenClaim.holds_of_wide 5 Try.f5 rfl rfl rfl rfl rfl rfl rfl ⟨rfl, rfl, rfl, rfl, rfl⟩ rfl rfl rfl rfl rfl (by kernel_rfl) Try.func5 (by kernel_rfl)
    (of_decide_eq_true (by kernel_rfl)) (by unfold Func.isWrapper; first | (rw [if_pos (by decide +kernel)]; kernel_rfl) | (rw [if_neg (by decide +kernel)]; exact ⟨rfl, rfl⟩))
    (fun os started H enc _ => lifted os started H enc)
theorem proved : Rows.RingResetsSaid := over
#print axioms proved
end Go.Proofs.Ytboepnfekfhppaa.ringResets
