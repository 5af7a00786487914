/-
  For every list of pieces and all bytes PiecesBack answers true, and changes nothing: what is scattered is gathered again, as far as there was room; what stands behind is as it was. No condition.
-/
import Derived.Test.YtiaojhjghededaaRows
import Derived.Test.YtiaojhjghededaaFr
import Derived.Test.YtiaojhjghededaaPieY
import Derived.Test.YtiaojhjghededaaOpen
namespace Go.Proofs.Ytiaojhjghededaa.piecesBack
open Go.ChangeShapes Go.WideShapes Go.ChangeAt Go.RowKit
set_option linter.unusedVariables false
theorem own : ownKnob Try.prog.godebug = none := by kernel_rfl
theorem laid : laidOutB Try.prog = true := by kernel_rfl
set_option maxRecDepth 100000
set_option maxHeartbeats 3200000
theorem walk (A : Option Addr) (cap : Nat) (ps : List Pc) (B : Option Addr) (bc : Nat) (bs : List Int) (w : World) (hm : ps.length ≤ cap) (hcap : cap ≤ maxLen) (hwf : ∀ q ∈ ps, q.wf) (hR : RdP w A ps) (hbl : bs.length ≤ bc) (hbc : bc ≤ maxLen) (rd : Rd w B bs.length (fun j => .int .u8 (bs.getD j 0))) (hB : Rds w B bs.length 1 (bys bs)) :
    Calls Try.prog 3 #[.slice A ps.length cap, .slice B bs.length bc] w fun r w' => r = .returned (.bool true) ∧ Below w.heap.size w w' := by
  by_cases hn : 16 < ps.length ∨ 500 < bs.length
  · have hcase : decide (16 < (ps.length : Int)) = true ∨ (decide (16 < (ps.length : Int)) = false ∧ decide (500 < (bs.length : Int)) = true) := by
      by_cases h1 : 16 < ps.length
      · exact Or.inl (decide_eq_true (by omega))
      · exact Or.inr ⟨decide_eq_false (by omega), decide_eq_true (by omega)⟩
    clear hR hwf rd hB hn
    rcases hcase with d1 | ⟨d1, d2⟩
    all_goals
      go_enter Try.func3, Try.ntmps3
      go_wp2_with fail
      refine (awake_o (St.begin w)).mono ?_
      rintro e w1 ⟨rfl, s1⟩
      go_wp2_with fail
      go_ret
      exact ⟨rfl, s1.below⟩
  have d1 : decide (16 < (ps.length : Int)) = false := decide_eq_false (by omega)
  have d2 : decide (500 < (bs.length : Int)) = false := decide_eq_false (by omega)
  have HR := Lib.hid hR
  have HWF := Lib.hid hwf
  have HB := Lib.hid hB
  have RDB := Lib.hid rd
  have HN0 := Lib.hid (show notIn A None from fun g o _ h => h)
  have HNB := Lib.hid (show notIn B None from fun g o _ h => h)
  clear hR hwf rd hB
  by_cases hmy : mayL 6 (gs 4) ps = true
  rotate_left 1
  · have hmy : mayL 6 (gs 4) ps = false := by simpa using hmy
    have MA := Lib.hid (fun (W : World) (p : Nat) (h : St w None W [PoolR p 6 (gs 4)]) => may_o8 h 0 rfl (gs_ok 4 (by omega)) A cap ps hm hcap HR.out HN0.out)
    have SA := Lib.hid (fun (W : World) (p : Nat) (h : St w None W [PoolR p 6 (gs 4)]) => scatter_arg h 0 rfl (gs_ok 4 (by omega)) A cap ps hm hcap HR.out HN0.out 1 B bs.length bc hmy)
    rw [hmy] at MA
    clear hmy
    go_enter Try.func3, Try.ntmps3
    go_wp2_with fail
    refine (awake_o (St.begin w)).mono ?_
    rintro e w1 ⟨rfl, s1⟩
    go_wp2_with fail
    refine (both_o s1).mono ?_
    rintro e w2 ⟨p, r, rfl, s2'⟩
    have K2 := Lib.hid (MA.out w2 p s2')
    clear s1 s2'
    go_wp2_with fail
    refine K2.out.mono ?_
    rintro e w3 ⟨rfl, s3⟩
    have K3 := Lib.hid (SA.out w3 p s3)
    clear s3 K2
    go_wp2_with fail
    refine K3.out.mono ?_
    rintro e w4 ⟨rfl, s4⟩
    go_wp2_with fail
    go_ret
    exact ⟨rfl, s4.below⟩
  have hO := own_gs4 hmy
  have ok0 := gs_ok 4 (by omega)
  obtain ⟨ok1, hm1⟩ := sca_ok ok0 hmy bs
  obtain ⟨hw0, hap, -, hl1, -⟩ := may_wf ok0 hmy
  have hgs := gat_sca ps bs (gs 4) hw0 hap
  have hgl := gat_len ok0 hmy
  obtain ⟨hlt, hle⟩ := len_tot ok0 hmy
  have how : ownsP 6 (gs 4) 1 (bufsP ps) = true := by
    unfold ownsP
    rw [List.all_eq_true]
    intro x hx
    obtain ⟨i, h1, h2, h3, h4, h5⟩ := own_of hO (by omega) x hx
    rw [beq_iff_eq, ownV_live h1 h2 h3 h4, h5]
  have MA := Lib.hid (fun (W : World) (p : Nat) (h : St w None W [PoolR p 6 (gs 4)]) => may_o8 h 0 rfl ok0 A cap ps hm hcap HR.out HN0.out)
  rw [hmy] at MA
  have GA := Lib.hid (fun (W : World) (p : Nat) (h : St w None W [PoolR p 6 (gs 4)]) => gather_o h 0 rfl (cyP _ _ _) ok0 A cap ps hm hcap HWF.out HR.out HN0.out hmy)
  have SC := Lib.hid (fun (W : World) (p : Nat) (e : TypeId) (v : Value) (n : Nat) (xs : List Value) (he : e ≠ 42) (h : St w None W [LisR e 1 v n xs, PoolR p 6 (gs 4)]) => scatter_o h 1 rfl (Cy.cons (Cy.lis _ _ _ _ _ he) (cyP _ _ _)) ok0 A cap ps hm hcap HWF.out HR.out HN0.out hmy 1 how B bc bs hbl hbc HB.out (Or.inr HNB.out))
  have GB := Lib.hid (fun (W : World) (p : Nat) (e : TypeId) (v : Value) (n : Nat) (xs : List Value) (he : e ≠ 42) (h : St w None W [LisR e 1 v n xs, PoolR p 6 (scaP ps bs (gs 4))]) => gather_o h 1 rfl (Cy.cons (Cy.lis _ _ _ _ _ he) (cyP _ _ _)) ok1 A cap ps hm hcap HWF.out HR.out HN0.out hm1)
  have LN := Lib.hid (fun (W : World) (h : RdP W A ps) => len_o A cap ps W (by omega) HWF.out h)
  rw [hgs] at GB
  rw [hlt] at SC LN
  have hbt := @back_take bs (gatP (gs 4) ps)
  have hbd := @back_drop bs (gatP (gs 4) ps)
  have hbn := @back_len bs (gatP (gs 4) ps)
  obtain ⟨X, hX⟩ : ∃ X, gatP (gs 4) ps = X := ⟨_, rfl⟩
  rw [hX] at GA GB hbt hbd hbn hgl
  obtain ⟨Y, hY⟩ : ∃ Y, bs.take X.length ++ X.drop bs.length = Y := ⟨_, rfl⟩
  rw [hY] at GB hbt hbd hbn
  obtain ⟨N, hN⟩ : ∃ N, totP ps = N := ⟨_, rfl⟩
  rw [hN] at SC LN hgl hle
  have hN1 : 1 ≤ N := by
    obtain ⟨q, r, rfl⟩ : ∃ q r, ps = q :: r := by
      cases ps with
      | nil => simp at hl1
      | cons q r => exact ⟨q, r, rfl⟩
    obtain ⟨-, -, hf, -, -⟩ := may_wf ok0 hmy
    have := (fitP_bd ok0 (hf q List.mem_cons_self)).2.1
    rw [← hN]
    unfold totP
    rw [List.map_cons, List.sum_cons]
    omega
  obtain ⟨k, hk⟩ : ∃ k, min X.length bs.length = k := ⟨_, rfl⟩
  rw [hk] at hbt hbd
  have e1 : min ((N : Nat) : Int) ((bs.length : Nat) : Int) = (k : Int) := by omega
  rw [e1] at SC
  have hkN : k ≤ N := by omega
  have hkM : k ≤ bs.length := by omega
  have m1 : min ((bs.length : Nat) : Int) ((N : Nat) : Int) = (k : Int) := by omega
  have m2 : min ((N : Nat) : Int) ((bs.length : Nat) : Int) = (k : Int) := by omega
  have zk : ((k : Int) != (k : Int)) = false := by simp
  have zN : ((N : Int) != (N : Int)) = false := by simp
  rw [hgl] at GA hbn
  rw [hbn] at GB
  have HBT := Lib.hid hbt
  have HBD := Lib.hid hbd
  have HL1 := Lib.hid hgl
  have HL2 := Lib.hid hbn
  clear hO ok0 ok1 hmy hm1 hw0 hap hgs hgl hlt how hbt hbd hbn hX hY hN hk e1
  go_enter Try.func3, Try.ntmps3
  go_wp2_with fail
  refine (awake_o (St.begin w)).mono ?_
  rintro e w1 ⟨rfl, s1⟩
  go_wp2_with fail
  refine (both_o s1).mono ?_
  rintro e w2 ⟨p, r, rfl, s2'⟩
  have K2 := Lib.hid (MA.out w2 p s2')
  clear s1 s2'
  go_wp2_with fail
  refine K2.out.mono ?_
  rintro e w3 ⟨rfl, s3⟩
  have K3 := Lib.hid (GA.out w3 p s3)
  clear s3 K2
  go_wp2_with fail
  refine K3.out.mono ?_
  rintro e w4 ⟨A0, c0, rfl, s4⟩
  have K4 := Lib.hid (SC.out w4 p _ _ _ _ (by decide) s4)
  clear s4 K3
  go_wp2_with fail
  refine K4.out.mono ?_
  rintro e w5 ⟨rfl, s5⟩
  have K5 := Lib.hid (GB.out w5 p _ _ _ _ (by decide) s5)
  clear s5 K4
  go_wp2_with fail
  refine K5.out.mono ?_
  rintro e w6 ⟨A1, c1, rfl, s6'⟩
  have s6 : St w None w6 [LisR 5 1 (.slice A1 N c1) N (bys Y), LisR 5 1 (.slice A0 N c0) N (bys X), PoolR p 6 (scaP ps bs (gs 4))] := s6'
  have K6 := Lib.hid (LN.out w6 (s6.rdp HR.out HN0.out))
  have S6 := Lib.hid s6
  clear s6 s6' K5
  go_wp2_with fail
  refine K6.out.mono ?_
  rintro e w7 ⟨rfl, hb7⟩
  have s7 := S6.out.stay hb7
  have l1 := s7.lis 0 rfl
  have l0 := s7.lis 1 rfl
  have cc1 := lis_cap l1
  have cc0 := lis_cap l0
  have hsz : ∀ W : World, (Go.sizeOf 5).run Try.prog W = .ok 1 W := size_u8
  have f1 := fun W => run_slice_to (P := Try.prog) 23 5 Try.underlying23 hsz A1 N c1 k (by omega) W
  have f2 := fun W => run_slice_to (P := Try.prog) 23 5 Try.underlying23 hsz B bs.length bc k (by omega) W
  have f3 := fun W => run_slice_from (P := Try.prog) 23 5 Try.underlying23 hsz A1 N c1 k hkN W
  have f4 := fun W => run_slice_from (P := Try.prog) 23 5 Try.underlying23 hsz A0 N c0 k hkN W
  have g1 := (l1.cut (k := 0) (by omega)).upto (k := k) (by omega)
  have g3 := l1.cut hkN
  have g4 := l0.cut hkN
  rw [show (0 : Nat) * 1 = 0 by omega] at f1 f2 g1
  obtain ⟨B1, hB1⟩ : ∃ B1, (if c1 = 0 then A1 else A1.map (·.add 0)) = B1 := ⟨_, rfl⟩
  obtain ⟨B2, hB2⟩ : ∃ B2, (if bc = 0 then B else B.map (·.add 0)) = B2 := ⟨_, rfl⟩
  obtain ⟨B3, hB3⟩ : ∃ B3, (if c1 = k then A1 else A1.map (·.add (k * 1))) = B3 := ⟨_, rfl⟩
  obtain ⟨B4, hB4⟩ : ∃ B4, (if c0 = k then A0 else A0.map (·.add (k * 1))) = B4 := ⟨_, rfl⟩
  rw [hB1] at f1 g1
  rw [hB2] at f2
  rw [hB3] at f3 g3
  rw [hB4] at f4 g4
  have r2 : Rd w7 B2 k (fun j => .int .u8 (bs.getD j 0)) := fun h0 => by
    obtain ⟨b, off, e, h1, h2⟩ := (RDB.out.below s7.below (Nat.le_refl _)) (by omega)
    refine ⟨b, off, ?_, h1, fun j hj => h2 j (by omega)⟩
    rw [← hB2, e]
    split
    · rfl
    · rw [Option.map_some, Go.WideShapes.add_plain, Nat.add_zero]
  have HBL := Lib.hid (below_then (s7.below) (Below.refl w7.heap.size w7))
  rw [Nat.mul_one] at g1 g3 g4
  rw [show List.take k (List.drop 0 (bys Y)) = bys (Y.take k) by simp [bys, List.map_take]] at g1
  rw [show List.drop k (bys Y) = bys (Y.drop k) by simp [bys, List.map_drop]] at g3
  rw [show List.drop k (bys X) = bys (X.drop k) by simp [bys, List.map_drop]] at g4
  rw [HBT.out] at g1
  rw [HBD.out] at g3
  have SQ : RowKit.Hid (∀ (q : Nat) (a b : Option Addr) (n ca cb : Nat), ((a = B1 ∧ b = B2 ∧ n = k) ∨ (a = B3 ∧ b = B4 ∧ n = N - k)) → Calls Try.prog 13 #[.slice a n ca, .slice b n cb] (w7.drewN q) fun e w' => e = .returned (.bool true) ∧ ∃ m, w' = w7.drewN m) := Lib.hid (by
    rintro q a b n ca cb (⟨rfl, rfl, rfl⟩ | ⟨rfl, rfl, rfl⟩)
    · exact (same_q (w := w7.drewN q) (cap := ca) (cap2 := cb) (rd_bys g1) r2 (by omega) (fun j hj => by simp [List.getD, hj])).mono (fun e w' h => (⟨h.1, h.2.elim fun m hm => ⟨q + m, hm.trans (World.drewN_drewN _ _ _)⟩⟩ : e = .returned (.bool true) ∧ ∃ m, w' = w7.drewN m))
    · exact (same_q (w := w7.drewN q) (cap := ca) (cap2 := cb) (rd_bys g3) (rd_bys g4) (by omega) (fun j hj => rfl)).mono (fun e w' h => (⟨h.1, h.2.elim fun m hm => ⟨q + m, hm.trans (World.drewN_drewN _ _ _)⟩⟩ : e = .returned (.bool true) ∧ ∃ m, w' = w7.drewN m)))
  clear g1 g3 g4 hB1 hB2 hB3 hB4 r2 l1 l0 s7 hb7 K6
  go_wp2_with fail
  go_quiet ((go_at_call 13; exact SQ.out _ _ _ _ _ _ (by first | exact Or.inl ⟨rfl, rfl, rfl⟩ | exact Or.inr ⟨rfl, rfl, rfl⟩)))
  go_wp2_with fail
  go_ret
  exact ⟨rfl, below_drewN HBL.out _⟩

set_option maxRecDepth 100000 in
theorem lifted (os : Os) (started : os.Started) (H : Type) (enc : TypeId × Value → H) :
    ReturnsInHanded {} Try.checked os 3 .any (Rows.piecesBackSpec.pre6 enc Try.prog Try.f3 Rows.piecesBackRow.domain false) (Rows.piecesBackSpec.post enc Try.prog Try.f3 false true false false) := by
  refine law_lifted (C := Try.checked) (tb := 4) own started (by kernel_rfl) Try.func3
    (ChangeSpec.witness6 (enc := enc) (C := Try.checked) false ⟨#[], #[.slice none 0 0, .slice none 0 0], []⟩ 8 (by kernel_rfl) (by kernel_rfl) (by kernel_rfl) (by kernel_rfl)) laid (by kernel_rfl) (by kernel_rfl) Try.underlying4 rfl ?_
  intro W base args ds ps hval0 hA0 hlt
  have hval : ∀ (j : Nat) t v, Try.f3.params[j]? = some t → args[j]? = some v → Value.okWide Try.prog W .any base t v := hval0
  have hA : DataW.TrodAll enc Try.prog W 0 (fun _ => true) true Try.f3.params.toList args.toList ds ps := hA0
  clear hA0 hval0
  rw [Try.params3] at hA hval
  obtain ⟨v0, vs0, d0, ds0, p0, q0, hargs, rfl, rfl, h0, r0⟩ := trodAll_cons hA
  obtain ⟨v1, vs1, d1, ds1, p1, q1, rfl, rfl, rfl, h1, r1⟩ := trodAll_cons r0
  obtain ⟨rfl, rfl, rfl⟩ := trodAll_nil r1
  obtain rfl : args = #[v0, v1] := by cases args; simp_all
  obtain ⟨A0, n0, cap0, V0, rfl, le0, mx0, rd0, lf0⟩ := open_slice_spots (m := 4) (d := 20) (l := [(0, 3), (1, 38), (2, 3), (3, 3)]) Try.underlying22 (by kernel_rfl) (by decide) (by kernel_rfl) (hval 0 22 v0 rfl rfl) h0
  have f0_0 := fun j hj => leaf_int Try.underlying3 (lf0 0 3 (by simp) j hj)
  have f0_1 := fun j hj => leaf_int Try.underlying38 (lf0 1 38 (by simp) j hj)
  have f0_2 := fun j hj => leaf_int Try.underlying3 (lf0 2 3 (by simp) j hj)
  have f0_3 := fun j hj => leaf_int Try.underlying3 (lf0 3 3 (by simp) j hj)
  obtain ⟨A1, n1, cap1, f1, rfl, le1, mx1, wf1, rd1⟩ := open_slice_ints Try.underlying23 Try.underlying5 (by kernel_rfl) (hval 1 23 v1 rfl rfl) h1
  refine ⟨⟨rfl, rfl, rfl⟩, ?_⟩
  haveI : Inhabited Pc := ⟨⟨0, 0, 0, 0⟩⟩
  obtain ⟨T, hT⟩ := Go.Deep.choose_lt (n := n0) (p := fun j (d : Pc) => (V0 j 0 = .int .i64 d.s ∧ V0 j 1 = .int .u64 d.g ∧ V0 j 2 = .int .i64 d.f ∧ V0 j 3 = .int .i64 d.m) ∧ d.wf) (fun j hj => by
    obtain ⟨x0, h0, w0⟩ := f0_0 j hj
    obtain ⟨x1, h1, w1⟩ := f0_1 j hj
    obtain ⟨x2, h2, w2⟩ := f0_2 j hj
    obtain ⟨x3, h3, w3⟩ := f0_3 j hj
    exact ⟨⟨x0, x1, x2, x3⟩, ⟨h0, h1, h2, h3⟩, bounds_i64 w0, bounds_u64 w1, bounds_i64 w2, bounds_i64 w3⟩)
  have hl : ((List.range n0).map T).length = n0 := by simp
  have hl1 : ((List.range n1).map f1).length = n1 := by simp
  have hw := walk A0 cap0 ((List.range n0).map T) A1 cap1 ((List.range n1).map f1) W (by rw [hl]; omega) (by omega) (fun q hq => by
    obtain ⟨j, hj, rfl⟩ := List.mem_map.1 hq
    exact (hT j (List.mem_range.1 hj)).2) (rdp_rdm rd0 fun j hj => (hT j hj).1) (by rw [hl1]; omega) (by omega) (by
    rw [hl1]
    intro h0
    obtain ⟨b, off, e, h1, h2⟩ := rd1 h0
    exact ⟨b, off, e, h1, fun j hj => by rw [h2 j hj]; simp [hj]⟩) (by rw [hl1]; exact rds_of_rd rd1)
  rw [hl, hl1] at hw
  exact hw

theorem over : Rows.piecesBackRow.holds Try.pinned (OpenSpec.ofChange Rows.piecesBackSpec) :=
  OpenClaim.holds_of_wide 3 Try.f3 rfl rfl rfl rfl rfl rfl rfl ⟨rfl, rfl, rfl, rfl, rfl⟩ rfl rfl rfl rfl rfl (by kernel_rfl) Try.func3 (by kernel_rfl)
    (of_decide_eq_true (by kernel_rfl)) (by unfold Func.isWrapper; first | (rw [if_pos (by decide +kernel)]; kernel_rfl) | (rw [if_neg (by decide +kernel)]; exact ⟨rfl, rfl⟩))
    (fun os started H enc _ => lifted os started H enc)
theorem proved : Rows.PiecesBackSaid := over
#print axioms proved
end Go.Proofs.Ytiaojhjghededaa.piecesBack
