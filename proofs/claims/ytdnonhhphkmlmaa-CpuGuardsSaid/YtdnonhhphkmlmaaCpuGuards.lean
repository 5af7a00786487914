/-
  For all tasks, all loads and every script CpuGuards answers true, and changes nothing: if all tasks have an answer time, no job ever misses its time, however much work servers are given, and whatever jobs want, whenever they are released. No condition.
-/
import Derived.Test.YtdnonhhphkmlmaaRows
import Derived.Test.YtdnonhhphkmlmaaFr
import Derived.Test.YtdnonhhphkmlmaaCpuU
import Derived.Test.YtdnonhhphkmlmaaCpuY
import Derived.Test.YtdnonhhphkmlmaaOpen
namespace Go.Proofs.Ytdnonhhphkmlmaa.cpuGuards
open Go.ChangeShapes Go.WideShapes Go.ChangeAt Go.RowKit
set_option linter.unusedVariables false
theorem own : ownKnob Try.prog.godebug = none := by kernel_rfl
theorem laid : laidOutB Try.prog = true := by kernel_rfl
set_option maxRecDepth 100000
set_option maxHeartbeats 4000000
structure DoT where
  kind : Int
  id : Int
  num : Int
deriving Inhabited
abbrev DoT.cells (d : DoT) : Array Value := #[.int .i64 d.kind, .int .i64 d.id, .int .u64 d.num]
theorem walk (A E Z : Option Addr) (n ca m ce q cz : Nat) (W : Nat → Wk) (S : Nat → Ld) (D : Nat → DoT) (V : Nat → Nat → Value) (w : World) (hn : n ≤ maxLen) (hm : m ≤ maxLen) (hq : q ≤ maxLen) (rd : Ts w A n W) (rdS : Ls w E m S) (ht : LTyped m S) (rdD : RdM w Z q 3 V)
    (hD : ∀ j, j < q → V j 0 = .int .i64 (D j).kind ∧ V j 1 = .int .i64 (D j).id ∧ V j 2 = .int .u64 (D j).num ∧ 0 ≤ (D j).num) :
    Calls Try.prog 3 #[.slice A n ca, .slice E m ce, .slice Z q cz] w fun r' w' => r' = .returned (.bool true) ∧ Below w.heap.size w w' := by
  have HSM := Lib.hid (fun X (hX : Below w.heap.size w X) => small_c (cap := ca) (capB := ce) (B := E) (rd.below hX) hn hm)
  have HMY := Lib.hid (fun X (hX : Below w.heap.size w X) => rmay17_c (cap := ca) (capB := ce) (rd.below hX) (rdS.below hX) ht hn hm (decide (TOK n W ∧ LOK m S)) rfl)
  have HAL := Lib.hid (fun X (hX : Below w.heap.size w X) => rall_c (cap := ca) (capB := ce) (rd.below hX) (rdS.below hX) ht hn hm (decide (TOK n W ∧ LOK m S ∧ allO n W m S)) rfl)
  have HNW := Lib.hid (fun X (hX : Below w.heap.size w X) hT hS => cNew_c (ca := ca) (ce := ce) (rd.below hX) (rdS.below hX) hT hS ht)
  have RDD := Lib.hid rdD
  have HDD := Lib.hid hD
  clear rd rdS ht rdD hD
  unfold maxLen at hn hm hq
  go_enter Try.func3, Try.ntmps3
  go_wp2_with fail
  refine (awake_any _).mono ?_
  rintro e1 w1 ⟨rfl, hb1⟩
  have B1 := Lib.hid hb1
  clear hb1
  go_wp2_with fail
  refine (HSM.out _ B1.out).mono ?_
  rintro e2 w2 ⟨bs, rfl, hbs, hb2⟩
  have B2 := Lib.hid (below_then B1.out hb2)
  clear hb2 HSM
  cases bs with
  | false =>
    go_wp2_with fail
    go_ret
    exact ⟨rfl, B2.out⟩
  | true =>
  obtain ⟨hn4, hm4⟩ := hbs rfl
  go_wp2_with fail
  refine (HMY.out _ B2.out).mono ?_
  rintro e3 w3 ⟨rfl, hb3⟩
  have B3 := Lib.hid (below_then B2.out hb3)
  clear hb3 HMY
  by_cases hTS : TOK n W ∧ LOK m S
  case neg =>
    rw [decide_eq_false hTS]
    clear hTS
    go_wp2_with fail
    go_ret
    exact ⟨rfl, B3.out⟩
  rw [decide_eq_true hTS]
  have HTS := Lib.hid hTS
  clear hTS
  go_wp2_with fail
  refine (HAL.out _ B3.out).mono ?_
  rintro e4 w4 ⟨rfl, hb4⟩
  have B4 := Lib.hid (below_then B3.out hb4)
  clear hb4 HAL
  by_cases hAL : TOK n W ∧ LOK m S ∧ allO n W m S
  case neg =>
    rw [decide_eq_false hAL]
    clear hAL
    go_wp2_with fail
    go_ret
    exact ⟨rfl, B4.out⟩
  rw [decide_eq_true hAL]
  obtain ⟨Rf, hRf⟩ := timely_of hAL.2.2 hAL.1 hAL.2.1
  have HRF := Lib.hid hRf
  have NC := Lib.hid (HNW.out w4 B4.out HTS.out.1 HTS.out.2)
  clear hAL hRf HNW
  go_wp2_with fail
  refine NC.out.mono ?_
  rintro e5 w5 ⟨P, V5, rfl, en, em, hV, s5⟩
  obtain ⟨pc, pq, pA, pk, pn, pE, pe, pm⟩ := P
  dsimp only at en em
  subst en em
  obtain ⟨p, hp⟩ : ∃ p : Pl, (⟨pc, pq, pA, pk, pn, pE, pe, pm⟩ : Pl) = p := ⟨_, rfl⟩
  have HP := Lib.hid (show p.c = pc ∧ p.n = pn ∧ p.m = pm by rw [← hp]; exact ⟨rfl, rfl, rfl⟩)
  have K0 : CG w None [] ⟨pc, pq, pA, pk, pn, pE, pe, pm⟩ W S Rf 0 w5 :=
    ⟨_, _, _, _, _, _, Gh.anew HTS.out.1 HTS.out.2 hV, fun i hi => Busy.new (HRF.out i hi).1, ((St.begin w).stay B4.out).cpu s5⟩
  rw [hp] at K0
  have K0 := Lib.hid K0
  have HR := Lib.hid (show Timely p.n p.m W S Rf by rw [HP.out.2.1, HP.out.2.2]; exact HRF.out)
  have TK := Lib.hid (fun (X : List Res) (W' : World) (t : Nat) (h : CG w None X p W S Rf t W') (h1 : t < 4611686018427387903) => cg_tick HR.out h h1)
  have RL := Lib.hid (fun (X : List Res) (W' : World) (t : Nat) (id dem : Int) (h : CG w None X p W S Rf t W') (hd : 0 ≤ dem) (h1 : t < 4611686018427387904) => cg_release (id := id) (dem := dem) h hd h1)
  have WK := Lib.hid (fun (X : List Res) (W' : World) (t : Nat) (id dem : Int) (h : CG w None X p W S Rf t W') (hd : 0 ≤ dem) => cg_wake (id := id) (dem := dem) h hd)
  simp only [RelQ] at RL
  rw [HP.out.1] at TK RL WK
  clear hp NC hV s5
  go_wp2_with fail
  go_loopw [9, 10, 11, 12, 13, 14, 15, 16] (fun x9 x10 x11 x12 x13 x14 x15 x16 wr => ∃ (k t : Nat), x9 = .int .i64 (k : Int) ∧ k ≤ q ∧ k ≤ 80 ∧ t ≤ 30 * k ∧ CG w None [] p W S Rf t wr) (fun x _ _ _ _ _ _ _ _ => 80 - (intOf x).toNat)
  case atStart => exact ⟨0, 0, rfl, by omega, by omega, by omega, K0.out⟩
  case round =>
  clear K0
  obtain ⟨k, t, rfl, hk, hk8, ht, hK⟩ := hrel
  have K0 := Lib.hid hK
  clear hK
  by_cases hlt : k < q
  case neg =>
    obtain rfl : k = q := by omega
    have z0 : decide ((k : Int) < (k : Int)) = false := decide_eq_false (by omega)
    have BB := K0.out.below
    go_wp2_with fail
    go_ret
    exact ⟨rfl, BB⟩
  have z0 : decide ((k : Int) < (q : Int)) = true := decide_eq_true (by omega)
  have z0' : decide (k < q) = true := decide_eq_true hlt
  by_cases h80 : k < 80
  case neg =>
    obtain rfl : k = 80 := by omega
    have BB := K0.out.below
    go_wp2_with fail
    go_ret
    exact ⟨rfl, BB⟩
  have z1 : decide ((k : Int) < 80) = true := decide_eq_true (by omega)
  have z1' : decide (k < 80) = true := decide_eq_true h80
  obtain ⟨ib, off, rfl, hc⟩ := RDD.out.at_ K0.out.below hlt
  have c0 := hc 0 (by omega)
  have c1 := hc 1 (by omega)
  have c2 := hc 2 (by omega)
  obtain ⟨v0, v1, v2, v3⟩ := HDD.out k hlt
  rw [v0, Nat.add_zero] at c0
  rw [v1] at c1
  rw [v2] at c2
  generalize D k = dk at *
  obtain ⟨kd, id, num⟩ := dk
  dsimp only at c0 c1 c2 v3
  have s1 := K0.out.box 33 #[.int .i64 kd, .int .i64 id, .int .u64 num]
  obtain ⟨g, hg⟩ : ∃ g, wr.heap.size = g := ⟨_, rfl⟩
  rw [hg, List.nil_append] at s1
  obtain ⟨b0, b1, b2⟩ := (s1.blk 0 rfl).three
  have S1 := Lib.hid s1
  clear K0 hc v0 v1 v2 s1
  by_cases hd0 : kd = 0
  · subst hd0
    have RC := Lib.hid (RL.out _ _ _ id num S1.out v3 (by omega))
    go_wp2_with fail
    refine RC.out.mono ?_
    rintro e6 w6 ⟨f, rfl, ⟨hf, hK⟩ | ⟨rfl, hK, hJ⟩⟩
    · have y1 : (f == 12) = false := beq_eq_false_iff_ne.2 hf
      have K2 := Lib.hid (hK.less (X := []))
      clear RC hK hf
      go_wp2_with fail
      go_roundw
      case rel => exact ⟨k + 1, t, by go_num, by omega, by omega, by omega, K2.out⟩
      case measure => simp [intOf]; omega
    · have JC := Lib.hid hJ
      obtain ⟨b0, b1, b2⟩ := (hK.blk 0 rfl).three
      clear RC hJ hK
      go_wp2_with fail
      refine JC.out.mono ?_
      rintro e7 w7 ⟨ja, jc, rfl, hK⟩
      have K2 := Lib.hid (hK.less (X := []))
      clear JC hK
      go_wp2_with fail
      go_roundw
      case rel => exact ⟨k + 1, t, by go_num, by omega, by omega, by omega, K2.out⟩
      case measure => simp [intOf]; omega
  have y0 : (kd == 0) = false := beq_eq_false_iff_ne.2 hd0
  by_cases hd1 : kd = 1
  · subst hd1
    have WC := Lib.hid (WK.out _ _ _ id num S1.out v3)
    go_wp2_with fail
    refine WC.out.mono ?_
    rintro e6 w6 ⟨rfl, hK⟩
    have K2 := Lib.hid (hK.less (X := []))
    clear WC hK
    go_wp2_with fail
    go_roundw
    case rel => exact ⟨k + 1, t, by go_num, by omega, by omega, by omega, K2.out⟩
    case measure => simp [intOf]; omega
  have y1 : (kd == 1) = false := beq_eq_false_iff_ne.2 hd1
  clear hd0 hd1
  go_wp2_with fail
  go_loopw [14, 15, 16] (fun x14 x15 x16 wi => ∃ i : Nat, x14 = .int .u64 (i : Int) ∧ i ≤ 30 ∧ CG w None [BlkR g 33 #[.int .i64 kd, .int .i64 id, .int .u64 num]] p W S Rf (t + i) wi) (fun x _ _ _ => 30 - (intOf x).toNat)
  case atStart => exact ⟨0, rfl, by omega, S1.out⟩
  case round =>
  clear S1 b0 b1 b2
  obtain ⟨i, rfl, hi, hK⟩ := hrel
  have b2 := (hK.blk 0 rfl).three.2.2
  by_cases hmore : (i : Int) < 30 ∧ (i : Int) < num
  · have y2 : decide ((i : Int) < min num 30) = true := decide_eq_true (by omega)
    have m1 : (if num < 30 then num else 30) = min num 30 := by split <;> omega
    have m2 : (if (30 : Int) < num then 30 else num) = min num 30 := by split <;> omega
    have m3 : (if num ≤ 30 then num else 30) = min num 30 := by split <;> omega
    have y9 : IntKind.u64.wrap ((i : Int) + 1) = (i : Int) + 1 := IntWalk.u64_in _ ⟨by omega, by omega⟩
    have TC := Lib.hid (TK.out _ _ _ hK (by omega))
    have hi30 : i < 30 := by omega
    clear hK hmore
    go_wp2_with fail
    refine TC.out.mono ?_
    rintro e7 w7 ⟨who, D7, cd, C7, cc, M7, cm, nd, nc, rfl, hK⟩
    have K2 := Lib.hid (hK.box 39 #[.int .i64 who, .slice D7 nd cd, .slice C7 nc cc, .slice M7 0 cm])
    obtain ⟨g7, hg7⟩ : ∃ g, w7.heap.size = g := ⟨_, rfl⟩
    rw [hg7] at K2
    obtain ⟨a0, a1, a2, a3⟩ := (K2.out.blk 1 rfl).four4
    clear TC hK
    go_wp2_with fail
    go_roundw
    case rel => exact ⟨i + 1, by go_num, by omega, K2.out.less (X := [BlkR g 33 #[.int .i64 kd, .int .i64 id, .int .u64 num]])⟩
    case measure => simp [intOf]; omega
  · have y2 : decide ((i : Int) < min num 30) = false := decide_eq_false (by omega)
    have m1 : (if num < 30 then num else 30) = min num 30 := by split <;> omega
    have m2 : (if (30 : Int) < num then 30 else num) = min num 30 := by split <;> omega
    have m3 : (if num ≤ 30 then num else 30) = min num 30 := by split <;> omega
    have K2 := Lib.hid (hK.less (X := []))
    clear hK hmore
    go_wp2_with fail
    go_roundw
    case rel => exact ⟨k + 1, t + i, by go_num, by omega, by omega, by omega, K2.out⟩
    case measure => simp [intOf]; omega

set_option maxRecDepth 100000 in
theorem lifted (os : Os) (started : os.Started) (H : Type) (enc : TypeId × Value → H) :
    ReturnsInHanded {} Try.checked os 3 .any (Rows.cpuGuardsSpec.pre6 enc Try.prog Try.f3 Rows.cpuGuardsRow.domain false) (Rows.cpuGuardsSpec.post enc Try.prog Try.f3 false true false false) := by
  refine law_lifted (C := Try.checked) (tb := 4) own started (by kernel_rfl) Try.func3
    (ChangeSpec.witness6 (enc := enc) (C := Try.checked) false ⟨#[], #[.slice none 0 0, .slice none 0 0, .slice none 0 0], []⟩ 8 (by kernel_rfl) (by kernel_rfl) (by kernel_rfl) (by kernel_rfl)) laid (by kernel_rfl) (by kernel_rfl) Try.underlying4 rfl ?_
  intro W base args ds ps hval0 hA0 hlt
  have hval : ∀ (j : Nat) t v, Try.f3.params[j]? = some t → args[j]? = some v → Value.okWide Try.prog W .any base t v := hval0
  have hA : DataW.TrodAll enc Try.prog W 0 (fun _ => true) true Try.f3.params.toList args.toList ds ps := hA0
  clear hA0 hval0
  rw [Try.params3] at hA hval
  obtain ⟨v0, vs0, d0, ds0, p0, q0, hargs, rfl, rfl, h0, r0⟩ := trodAll_cons hA
  obtain ⟨v1, vs1, d1, ds1, p1, q1, rfl, rfl, rfl, h1, r1⟩ := trodAll_cons r0
  obtain ⟨v2, vs2, d2, ds2, p2, q2, rfl, rfl, rfl, h2, r2⟩ := trodAll_cons r1
  obtain ⟨rfl, rfl, rfl⟩ := trodAll_nil r2
  obtain rfl : args = #[v0, v1, v2] := by cases args; simp_all
  obtain ⟨A0, n0, cap0, V0, rfl, le0, mx0, rd0, lf0⟩ := open_slice_spots (m := 4) (d := 20) (l := [(0, 3), (1, 31), (2, 31), (3, 31)]) Try.underlying22 (by kernel_rfl) (by decide) (by kernel_rfl) (hval 0 22 v0 rfl rfl) h0
  have f0_0 := fun j hj => leaf_int Try.underlying3 (lf0 0 3 (by simp) j hj)
  have f0_1 := fun j hj => leaf_int Try.underlying31 (lf0 1 31 (by simp) j hj)
  have f0_2 := fun j hj => leaf_int Try.underlying31 (lf0 2 31 (by simp) j hj)
  have f0_3 := fun j hj => leaf_int Try.underlying31 (lf0 3 31 (by simp) j hj)
  obtain ⟨A1, n1, cap1, V1, rfl, le1, mx1, rd1, lf1⟩ := open_slice_spots (m := 2) (d := 20) (l := [(0, 3), (1, 31)]) Try.underlying23 (by kernel_rfl) (by decide) (by kernel_rfl) (hval 1 23 v1 rfl rfl) h1
  have f1_0 := fun j hj => leaf_int Try.underlying3 (lf1 0 3 (by simp) j hj)
  have f1_1 := fun j hj => leaf_int Try.underlying31 (lf1 1 31 (by simp) j hj)
  obtain ⟨A2, n2, cap2, V2, rfl, le2, mx2, rd2, lf2⟩ := open_slice_spots (m := 3) (d := 20) (l := [(0, 3), (1, 3), (2, 31)]) Try.underlying24 (by kernel_rfl) (by decide) (by kernel_rfl) (hval 2 24 v2 rfl rfl) h2
  have f2_0 := fun j hj => leaf_int Try.underlying3 (lf2 0 3 (by simp) j hj)
  have f2_1 := fun j hj => leaf_int Try.underlying3 (lf2 1 3 (by simp) j hj)
  have f2_2 := fun j hj => leaf_int Try.underlying31 (lf2 2 31 (by simp) j hj)
  refine ⟨⟨rfl, rfl, rfl⟩, ?_⟩
  obtain ⟨T, hT⟩ := Go.Deep.choose_lt (n := n0) (p := fun j (d : Wk) => V0 j 0 = .int .i64 d.prio ∧ V0 j 1 = .int .u64 d.cost ∧ V0 j 2 = .int .u64 d.per ∧ V0 j 3 = .int .u64 d.dead) (fun j hj => by
    obtain ⟨x0, h0, -⟩ := f0_0 j hj
    obtain ⟨x1, h1, -⟩ := f0_1 j hj
    obtain ⟨x2, h2, -⟩ := f0_2 j hj
    obtain ⟨x3, h3, -⟩ := f0_3 j hj
    exact ⟨⟨x0, x1, x2, x3⟩, h0, h1, h2, h3⟩)
  obtain ⟨S, hS⟩ := Go.Deep.choose_lt (n := n1) (p := fun j (d : Ld) => V1 j 0 = .int .i64 d.b ∧ V1 j 1 = .int .u64 d.per ∧ d.typed) (fun j hj => by
    obtain ⟨x0, h0, w0⟩ := f1_0 j hj
    obtain ⟨x1, h1, w1⟩ := f1_1 j hj
    exact ⟨⟨x0, x1⟩, h0, h1, bounds_i64 w0, bounds_u64 w1⟩)
  obtain ⟨D, hD⟩ := Go.Deep.choose_lt (n := n2) (p := fun j (d : DoT) => V2 j 0 = .int .i64 d.kind ∧ V2 j 1 = .int .i64 d.id ∧ V2 j 2 = .int .u64 d.num ∧ 0 ≤ d.num) (fun j hj => by
    obtain ⟨x0, h0, -⟩ := f2_0 j hj
    obtain ⟨x1, h1, -⟩ := f2_1 j hj
    obtain ⟨x2, h2, b2⟩ := f2_2 j hj
    exact ⟨⟨x0, x1, x2⟩, h0, h1, h2, (bounds_u64 b2).1⟩)
  exact walk A0 A1 A2 n0 cap0 n1 cap1 n2 cap2 T S D V2 W (by omega) (by omega) (by omega) (ts_of rd0 hT) (ls_of rd1 fun j hj => ⟨(hS j hj).1, (hS j hj).2.1⟩) (fun j hj => (hS j hj).2.2) rd2 hD

theorem over : Rows.cpuGuardsRow.holds Try.pinned (OpenSpec.ofChange Rows.cpuGuardsSpec) :=
  OpenClaim.holds_of_wide 3 Try.f3 rfl rfl rfl rfl rfl rfl rfl ⟨rfl, rfl, rfl, rfl, rfl⟩ rfl rfl rfl rfl rfl (by kernel_rfl) Try.func3 (by kernel_rfl)
    (of_decide_eq_true (by kernel_rfl)) (by unfold Func.isWrapper; first | (rw [if_pos (by decide +kernel)]; kernel_rfl) | (rw [if_neg (by decide +kernel)]; exact ⟨rfl, rfl⟩))
    (fun os started H enc _ => lifted os started H enc)
theorem proved : Rows.CpuGuardsSaid := over
#print axioms proved
end Go.Proofs.Ytdnonhhphkmlmaa.cpuGuards
