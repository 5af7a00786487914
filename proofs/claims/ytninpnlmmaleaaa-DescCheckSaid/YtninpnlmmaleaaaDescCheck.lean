/-
  For every row of bytes, every place and every byte DescCheck answers true, and changes nothing: the check is told apart by a turned byte, and by two unlike neighbours changed. No condition.
-/
import Derived.Test.YtninpnlmmaleaaaRows
import Derived.Test.YtninpnlmmaleaaaFr
import Derived.Test.YtninpnlmmaleaaaDescU
import Derived.Test.YtninpnlmmaleaaaOpen
import Derived.Deep.RegionHeld3
namespace Go.Proofs.Ytninpnlmmaleaaa.descCheck
open Go.ChangeShapes Go.WideShapes Go.ChangeAt Go.RowKit
set_option linter.unusedVariables false
theorem own : ownKnob Try.prog.godebug = none := by kernel_rfl
theorem laid : laidOutB Try.prog = true := by kernel_rfl
set_option maxRecDepth 100000
set_option maxHeartbeats 1000000
theorem size_set (w : World) (p : Addr) (u : Value) : (w.setCell p u).heap.size = w.heap.size := by simp [World.setCell]
theorem walk (A : Option Addr) (n cap : Nat) (f : Nat → Int) (at' by' : Int) (w : World) (ba : 0 ≤ at' ∧ at' ≤ 255) (bb : 0 ≤ by' ∧ by' ≤ 255) (hcap : n ≤ cap ∧ cap ≤ maxLen) (rd : Rd w A n (fun j => .int .u8 (f j))) (hf : ∀ j, 0 ≤ f j ∧ f j ≤ 255) :
    Calls Try.prog 7 #[.slice A n cap, .int .u8 at', .int .u8 by'] w fun r w' => r = .returned (.bool true) ∧ Below w.heap.size w w' := by
  have hm := hcap
  unfold maxLen at hm
  by_cases hn : 200 < n
  · have d1 : decide (200 < (n : Int)) = true := decide_eq_true (by omega)
    go_enter Try.func7, Try.ntmps7
    go_wp2_with fail
    refine (looks (awake_any _) (St.begin w)).mono ?_
    rintro e w1 ⟨rfl, s1⟩
    go_wp2_with fail
    go_ret
    exact ⟨rfl, s1.below⟩
  · have d1 : decide (200 < (n : Int)) = false := decide_eq_false (by omega)
    by_cases hn2 : n < 2
    · have d2 : decide ((n : Int) < 2) = true := decide_eq_true (by omega)
      go_enter Try.func7, Try.ntmps7
      go_wp2_with fail
      refine (looks (awake_any _) (St.begin w)).mono ?_
      rintro e w1 ⟨rfl, s1⟩
      go_wp2_with fail
      go_ret
      exact ⟨rfl, s1.below⟩
    · have d2 : decide ((n : Int) < 2) = false := decide_eq_false (by omega)
      obtain ⟨i0, hi, hz0, hz1, hz2⟩ := info_parts Try.infoU8
      have hfb : ∀ j, j < n → 0 ≤ f j ∧ f j < 256 := fun j _ => by have := hf j; omega
      have h1 := Int.emod_nonneg at' (show (n : Int) ≠ 0 by omega)
      have h2 := Int.emod_lt_of_pos at' (show (0 : Int) < n by omega)
      have h3 := Int.emod_nonneg at' (show (n : Int) - 1 ≠ 0 by omega)
      have h4 := Int.emod_lt_of_pos at' (show (0 : Int) < (n : Int) - 1 by omega)
      obtain ⟨i, hi1⟩ : ∃ i : Nat, at' % (n : Int) = (i : Int) := ⟨(at' % (n : Int)).toNat, by omega⟩
      obtain ⟨k, hk1⟩ : ∃ k : Nat, at' % ((n : Int) - 1) = (k : Int) := ⟨(at' % ((n : Int) - 1)).toNat, by omega⟩
      have hin : i < n := by omega
      have hkn : k + 1 < n := by omega
      have i0' : (0 : Int) ≤ (i : Int) := by omega
      have i1' : (i : Int) < (n : Int) := by omega
      have k0' : (0 : Int) ≤ (k : Int) := by omega
      have k1' : (k : Int) < (n : Int) := by omega
      have k2' : (0 : Int) ≤ (k : Int) + 1 := by omega
      have k3' : (k : Int) + 1 < (n : Int) := by omega
      obtain ⟨z, hz⟩ : ∃ z, bits BinOp.xor IntKind.u8 (f i) by' = z := ⟨_, rfl⟩
      obtain ⟨hzb, hzi⟩ := xor_fact (hfb i hin) ⟨bb.1, by omega⟩ hz
      obtain ⟨x0, hx0⟩ : ∃ x, chk f n = x := ⟨_, rfl⟩
      have hl : ((List.range n).map f).length = n := by simp
      obtain ⟨x1, hx1⟩ : ∃ x, chk (fun j => (((List.range n).map f).set i z).getD j 0) n = x := ⟨_, rfl⟩
      obtain ⟨x2, hx2⟩ : ∃ x, chk (fun j => ((((List.range n).map f).set k (f (k + 1))).set (k + 1) (f k)).getD j 0) n = x := ⟨_, rfl⟩
      have e0 : chk (fun j => ((List.range n).map f).getD j 0) n = x0 := by rw [← hx0]; exact chk_like fun j hj => map_get hj
      have hc1 : ∀ j, j < n → 0 ≤ (((List.range n).map f).set i z).getD j 0 ∧ (((List.range n).map f).set i z).getD j 0 < 256 := fun j hj => by
        by_cases e : j = i
        · rw [e, set_eq z (by omega)]; exact hzb
        · rw [set_ne z e, map_get hj]; exact hfb j hj
      have hc2 : ∀ j, j < n → 0 ≤ ((((List.range n).map f).set k (f (k + 1))).set (k + 1) (f k)).getD j 0 ∧ ((((List.range n).map f).set k (f (k + 1))).set (k + 1) (f k)).getD j 0 < 256 := fun j hj => by
        by_cases e : j = k + 1
        · rw [e, set_eq _ (by simp; omega)]; exact hfb k (by omega)
        · rw [set_ne _ e]
          by_cases e2 : j = k
          · rw [e2, set_eq _ (by omega)]; exact hfb (k + 1) hkn
          · rw [set_ne _ e2, map_get hj]; exact hfb j hj
      have t1 : ((x1 == x0) == (by' == 0)) = true := beq_iff (by
        rw [beq_iff_eq, beq_iff_eq, ← hzi, ← hx1, ← e0]
        have := chk_one (f := fun j => (((List.range n).map f).set i z).getD j 0) (g := fun j => ((List.range n).map f).getD j 0) (i := i) (n := n) (fun j hj => set_ne z hj) hin (by omega) (hc1 i hin) (by rw [map_get hin]; exact hfb i hin)
        rw [this]
        try dsimp only
        rw [set_eq z (by omega), map_get hin])
      have t2 : ((x2 == x0) == (f k == f (k + 1))) = true := beq_iff (by
        rw [beq_iff_eq, beq_iff_eq, ← hx2, ← e0]
        have := chk_two (f := fun j => ((((List.range n).map f).set k (f (k + 1))).set (k + 1) (f k)).getD j 0) (g := fun j => ((List.range n).map f).getD j 0) (i := k) (n := n) (fun j hj hj2 => by (try dsimp only); rw [set_ne _ hj2, set_ne _ hj]) (by (try dsimp only); rw [set_ne _ (by omega), set_eq _ (by omega), map_get hkn]) (by (try dsimp only); rw [set_eq _ (by simp; omega), map_get (by omega)]) hkn (by (try dsimp only); rw [map_get (show k < n by omega)]; exact hfb k (by omega)) (by (try dsimp only); rw [map_get hkn]; exact hfb (k + 1) hkn)
        rw [this]
        try dsimp only
        rw [map_get (show k < n by omega), map_get hkn])
      have HC1 := Lib.hid hc1
      have HC2 := Lib.hid hc2
      have HX1 := Lib.hid hx1
      have HX2 := Lib.hid hx2
      have HX0 := Lib.hid hx0
      have CI := Lib.hid (map_get' (f := f) hin)
      have CK := Lib.hid (map_get' (f := f) (show k < n by omega))
      have CK1 := Lib.hid (map_get' (f := f) hkn)
      obtain ⟨ab, ao, rfl, hab, hac⟩ := rd (by omega)
      have ak := hac k (by omega)
      have ak1 := hac (k + 1) hkn
      dsimp only at ak ak1
      have RD := Lib.hid rd
      have HFB := Lib.hid hfb
      have HL := Lib.hid hl
      clear rd hfb hf hac hc1 hc2 hx1 hx2 hx0 e0 hl hzi hzb h1 h2 h3 h4
      obtain ⟨yi, hyi⟩ : ∃ y, f i = y := ⟨_, rfl⟩
      obtain ⟨y0, hy0⟩ : ∃ y, f k = y := ⟨_, rfl⟩
      obtain ⟨y1, hy1⟩ : ∃ y, f (k + 1) = y := ⟨_, rfl⟩
      rw [hyi] at hz CI
      rw [hy0, hy1] at t2 HC2 HX2
      rw [hy0] at CK ak
      rw [hy1] at CK1 ak1
      clear hyi hy0 hy1
      have AK := Lib.hid ak
      have AK1 := Lib.hid ak1
      generalize hXS : (List.range n).map f = xs at *
      have RDS := Lib.hid (fun W (hb : Below w.heap.size w W) => hXS ▸ rds_of_rd (RD.out.below hb (Nat.le_refl _)))
      clear hXS
      go_enter Try.func7, Try.ntmps7
      go_wp2_with fail
      refine (looks (awake_any _) (St.begin w)).mono ?_
      rintro e w1 ⟨rfl, s1⟩
      have CW := Lib.hid (check_c (cap := cap) (RD.out.below s1.below (Nat.le_refl _)) HFB.out (by omega))
      rw [HX0.out] at CW
      go_wp2_with fail
      refine CW.out.mono ?_
      rintro e wx ⟨rfl, rfl⟩
      clear CW
      have s2 : St w None _ [_] := s1.lis_new 5 1 0 #[] rfl (by unfold maxLen; omega)
      have hl2 := s2.lis 0 rfl
      have hr2 := RDS.out _ s2.below
      go_wp2_with (first
        | (at_builtin; refine wpList_lis rfl (.tmp 29) (.tmp 30) 28 rfl 5 i0 (.int .u8 0) 1 1 Try.underlying28 hi hz0 hz1 hz2 rfl (by decide) _ _ _ rfl hl2 (some ⟨ab, ao, none⟩) n cap (bys xs) rfl hr2 (bys_one _) (by unfold maxLen; omega) (by omega) ?_; intro B3 c3 w3 hl3 hg3 hat3; have s3' := s2.lis_put 0 rfl hl3 hg3 hat3; clear hl3 hg3 hat3 hl2 hr2; rw [Nat.zero_add] at s3'; have s3 : St w None w3 [LisR 5 1 (.slice B3 n c3) n (bys xs)] := s3'; clear s3' s2 s1; obtain ⟨A', cap', hv, -, -, -, hcell⟩ := s3.lis_cells 0 rfl; injection hv with hv1 _ hv2; subst hv1 hv2; obtain ⟨b3, o3, rfl, hcc⟩ := hcell.resolve_left (by omega); have q3 := hcc i _ (bys_get CI.out); have f3 := (s3.lis 0 rfl).frozen (o3 + i); have s4 := s3.lis_set 0 rfl (k := i) (by omega) (.int .u8 z); rw [bys_set] at s4; have s5' := s4.lis_new 5 1 0 #[] rfl (by unfold maxLen; omega); rw [size_set] at s5'; have s5 : St w None _ [LisR 5 1 (.slice (some ⟨b3, o3, none⟩) n c3) n (bys (xs.set i z)), LisR 5 1 (.slice (some ⟨w3.heap.size, 0, none⟩) 0 0) 0 _] := s5'; clear s5'; have hl5 := s5.lis 1 rfl; have hr5 := RDS.out _ s5.below; clear hcc hcell s4 s3)
        | (at_builtin; refine wpList_lis rfl (.tmp 47) (.tmp 48) 28 rfl 5 i0 (.int .u8 0) 1 1 Try.underlying28 hi hz0 hz1 hz2 rfl (by decide) _ _ _ rfl hl5 (some ⟨ab, ao, none⟩) n cap (bys xs) rfl hr5 (bys_one _) (by unfold maxLen; omega) (by omega) ?_; intro B6 c6 w6 hl6 hg6 hat6; have s6' := s5.lis_put 1 rfl hl6 hg6 hat6; clear hl6 hg6 hat6 hl5 hr5 q3 f3; rw [Nat.zero_add] at s6'; have s6 : St w None w6 [_, LisR 5 1 (.slice B6 n c6) n (bys xs)] := s6'; clear s6' s5; obtain ⟨A', cap', hv, -, -, -, hcell⟩ := s6.lis_cells 1 rfl; injection hv with hv1 _ hv2; subst hv1 hv2; obtain ⟨b6, o6, rfl, hcc⟩ := hcell.resolve_left (by omega); have q6 := hcc k _ (bys_get CK.out); have f6 := (s6.lis 1 rfl).frozen (o6 + k); have g6 := (s6.below.cell (p := ⟨ab, ao + (k + 1), none⟩) hab).trans ak1; have s7 := s6.lis_set 1 rfl (k := k) (by omega) (.int .u8 y1); rw [bys_set] at s7; have g7 := (s7.below.cell (p := ⟨ab, ao + k, none⟩) hab).trans ak; have f7 := (s7.lis 1 rfl).frozen (o6 + (k + 1)); obtain ⟨A'', cap'', hv', -, -, -, hcell'⟩ := s7.lis_cells 1 rfl; injection hv' with hv1' _ hv2'; subst hv1' hv2'; obtain ⟨b6', o6', hbo, hcc'⟩ := hcell'.resolve_left (by omega); obtain ⟨rfl, rfl⟩ : b6 = b6' ∧ o6 = o6' := (by simpa using hbo); have q7 := hcc' (k + 1) (.int .u8 y1) (bys_get ((List.getElem?_set_ne (by omega)).trans CK1.out)); have s8 := s7.lis_set 1 rfl (k := k + 1) (by omega) (.int .u8 y0); rw [bys_set] at s8; have S8 := Lib.hid s8; clear hcc hcell hcc' hcell' hbo s8 s7 s6))
      have s8 := S8.out
      clear S8 g6 g7 q6 q7 f6 f7
      obtain ⟨W, hW⟩ : ∃ W, W = (w6.setCell ⟨b6, o6 + k, none⟩ (.int .u8 y1)).setCell ⟨b6, o6 + (k + 1), none⟩ (.int .u8 y0) := ⟨_, rfl⟩
      rw [← hW] at s8 ⊢
      clear hW
      have g8 := (s8.below.cell (p := ⟨ab, ao + k, none⟩) hab).trans ak
      have g9 := (s8.below.cell (p := ⟨ab, ao + (k + 1), none⟩) hab).trans ak1
      have Q0 : St w None W.drew [LisR 5 1 (.slice (some ⟨b3, o3, none⟩) n c3) n (bys (xs.set i z)), LisR 5 1 (.slice (some ⟨b6, o6, none⟩) n c6) n (bys ((xs.set k y1).set (k + 1) y0))] := s8.drew
      have CA := check_c (cap := c3) (rd_bys (Q0.lis 0 rfl)) HC1.out (by omega)
      have CB := check_c (cap := c6) (rd_bys (Q0.lis 1 rfl)) HC2.out (by omega)
      rw [HX1.out] at CA
      rw [HX2.out] at CB
      have CS := looks (same_eq (cap := cap) (cap2 := cap) (RD.out.below Q0.below (Nat.le_refl _)) (RD.out.below Q0.below (Nat.le_refl _)) (by unfold maxLen; omega) true (decide_eq_true fun j hj => rfl).symm) Q0
      have CN := Lib.hid (fun W => check_c (w := W) (A := none) (n := 0) (cap := 0) (f := fun _ => 0) (fun h => absurd h (by omega)) (fun j hj => by omega) (by omega))
      have HA := Lib.hid CA
      have HB := Lib.hid CB
      have HS := Lib.hid CS
      clear CA CB CS s8 ak ak1 Q0
      have wk1 : IntKind.i64.wrap ((k : Int) + 1) = (k : Int) + 1 := IntWalk.i64_in _ ⟨by omega, by omega⟩
      go_region_held3 (fun V => V.cell? ⟨ab, ao + k, none⟩ = some (.int .u8 y0) ∧ V.cell? ⟨ab, ao + (k + 1), none⟩ = some (.int .u8 y1)) (go_keep)
        (first
          | (go_at_call 17; refine HA.out.mono ?_; rintro e w9 ⟨rfl, rfl⟩; clear HA)
          | (go_at_call 17; refine HB.out.mono ?_; rintro e w9 ⟨rfl, rfl⟩; clear HB)
          | (go_at_call 13; refine HS.out.mono ?_; rintro e w10 ⟨rfl, t⟩; have q10 := And.intro ((t.below.cell (p := ⟨ab, ao + k, none⟩) hab).trans AK.out) ((t.below.cell (p := ⟨ab, ao + (k + 1), none⟩) hab).trans AK1.out); have Q1 := Lib.hid t; clear t HS)
          | (go_at_call 17; refine (CN.out _).mono ?_; rintro e w11 ⟨rfl, rfl⟩))
      go_wp2_with fail
      go_ret
      exact ⟨rfl, Q1.out.below⟩

set_option maxRecDepth 100000 in
theorem lifted (os : Os) (started : os.Started) (H : Type) (enc : TypeId × Value → H) :
    ReturnsInHanded {} Try.checked os 7 .any (Rows.descCheckSpec.pre6 enc Try.prog Try.f7 Rows.descCheckRow.domain false) (Rows.descCheckSpec.post enc Try.prog Try.f7 false true false false) := by
  refine law_lifted (C := Try.checked) (tb := 4) own started (by kernel_rfl) Try.func7
    (ChangeSpec.witness6 (enc := enc) (C := Try.checked) false ⟨#[], #[.slice none 0 0, .int .u8 0, .int .u8 0], []⟩ 8 (by kernel_rfl) (by kernel_rfl) (by kernel_rfl) (by kernel_rfl)) laid (by kernel_rfl) (by kernel_rfl) Try.underlying4 rfl ?_
  intro W base args ds ps hval0 hA0 hlt
  have hval : ∀ (j : Nat) t v, Try.f7.params[j]? = some t → args[j]? = some v → Value.okWide Try.prog W .any base t v := hval0
  have hA : DataW.TrodAll enc Try.prog W 0 (fun _ => true) true Try.f7.params.toList args.toList ds ps := hA0
  clear hA0 hval0
  rw [Try.params7] at hA hval
  obtain ⟨v0, vs0, d0, ds0, p0, q0, hargs, rfl, rfl, h0, r0⟩ := trodAll_cons hA
  obtain ⟨v1, vs1, d1, ds1, p1, q1, rfl, rfl, rfl, h1, r1⟩ := trodAll_cons r0
  obtain ⟨v2, vs2, d2, ds2, p2, q2, rfl, rfl, rfl, h2, r2⟩ := trodAll_cons r1
  obtain ⟨rfl, rfl, rfl⟩ := trodAll_nil r2
  obtain rfl : args = #[v0, v1, v2] := by cases args; simp_all
  obtain ⟨A0, n0, cap0, f0, rfl, le0, mx0, wf0, rd0⟩ := open_slice_ints Try.underlying28 Try.underlying5 (by kernel_rfl) (hval 0 28 v0 rfl rfl) h0
  obtain ⟨a1, rfl, rfl, rfl, w1⟩ := open_int Try.underlying5 (hval 1 5 v1 rfl rfl) h1
  obtain ⟨a2, rfl, rfl, rfl, w2⟩ := open_int Try.underlying5 (hval 2 5 v2 rfl rfl) h2
  refine ⟨⟨rfl, rfl, rfl⟩, ?_⟩
  exact walk A0 n0 cap0 f0 a1 a2 W (bounds_u8 w1) (bounds_u8 w2) ⟨le0, by omega⟩ rd0 (fun i => bounds_u8 (wf0 i))

theorem over : Rows.descCheckRow.holds Try.pinned (OpenSpec.ofChange Rows.descCheckSpec) :=
  OpenClaim.holds_of_wide 7 Try.f7 rfl rfl rfl rfl rfl rfl rfl ⟨rfl, rfl, rfl, rfl, rfl⟩ rfl rfl rfl rfl rfl (by kernel_rfl) Try.func7 (by kernel_rfl)
    (of_decide_eq_true (by kernel_rfl)) (by unfold Func.isWrapper; first | (rw [if_pos (by decide +kernel)]; kernel_rfl) | (rw [if_neg (by decide +kernel)]; exact ⟨rfl, rfl⟩))
    (fun os started H enc _ => lifted os started H enc)
theorem proved : Rows.DescCheckSaid := over
#print axioms proved
end Go.Proofs.Ytninpnlmmaleaaa.descCheck
