/-
  For every list of pieces PiecesFind answers true, and changes nothing: each byte of a list is in one piece, one behind the other; behind the last, and ahead of the first, there is none. No condition.
-/
import Derived.Test.YtiaojhjghededaaRows
import Derived.Test.YtiaojhjghededaaFr
import Derived.Test.YtiaojhjghededaaPieW
import Derived.Test.YtiaojhjghededaaOpen
namespace Go.Proofs.Ytiaojhjghededaa.piecesFind
open Go.ChangeShapes Go.WideShapes Go.ChangeAt Go.RowKit
set_option linter.unusedVariables false
theorem own : ownKnob Try.prog.godebug = none := by kernel_rfl
theorem laid : laidOutB Try.prog = true := by kernel_rfl
set_option maxRecDepth 100000
set_option maxHeartbeats 3200000
theorem walk (A : Option Addr) (cap : Nat) (ps : List Pc) (w : World) (hm : ps.length ≤ cap) (hcap : cap ≤ maxLen) (hwf : ∀ q ∈ ps, q.wf) (hR : RdP w A ps) :
    Calls Try.prog 4 #[.slice A ps.length cap] w fun r w' => r = .returned (.bool true) ∧ Below w.heap.size w w' := by
  by_cases hn : 16 < ps.length
  · have d1 : decide (16 < (ps.length : Int)) = true := decide_eq_true (by omega)
    clear hR hwf
    go_enter Try.func4, Try.ntmps4
    go_wp2_with fail
    refine (awake_o (St.begin w)).mono ?_
    rintro e w1 ⟨rfl, s1⟩
    go_wp2_with fail
    go_ret
    exact ⟨rfl, s1.below⟩
  · have d1 : decide (16 < (ps.length : Int)) = false := decide_eq_false (by omega)
    have HF := Lib.hid (fun (W : World) (a : Int) (h : RdP W A ps) => find_o A cap ps a W (by omega) hwf h)
    have HL := Lib.hid (fun (W : World) (h : RdP W A ps) => len_o A cap ps W (by omega) hwf h)
    have HR := Lib.hid hR
    clear hR hwf
    go_enter Try.func4, Try.ntmps4
    go_wp2_with fail
    refine (awake_o (St.begin w)).mono ?_
    rintro e w1 ⟨rfl, s1⟩
    have HB := Lib.hid s1.below
    clear s1
    go_wp2_with fail
    go_loopw [3, 4, 5] (fun x3 x4 _ wr => ∃ i : Nat, i ≤ ps.length ∧ x4 = .int .i64 (i : Int) ∧ x3 = .int .i64 ((totG ps i : Nat) : Int) ∧ goodP ps i ∧ Below w.heap.size w wr) (fun _ x4 _ _ => ps.length - (intOf x4).toNat)
    case atStart => exact ⟨0, by omega, rfl, rfl, fun j p hj => absurd hj (by omega), HB.out⟩
    case round =>
      obtain ⟨i, hi, rfl, rfl, hg, hb⟩ := hrel
      by_cases hlt : i < ps.length
      · obtain ⟨⟨s0, g0, f, m⟩, hp⟩ : ∃ p, ps[i]? = some p := ⟨ps[i], List.getElem?_eq_getElem hlt⟩
        have hrw := HR.out.on hb
        obtain ⟨g, off, rfl, -, -, -, c2, c3⟩ := hrw i _ hp
        try dsimp only at c2 c3
        have i0 : (0 : Int) ≤ (i : Int) := by omega
        have i1 : (i : Int) < (ps.length : Int) := by omega
        have HB2 := Lib.hid hb
        clear hb hrw
        by_cases h1 : 60 < m
        · have e1 : decide (60 < m) = true := decide_eq_true h1
          go_wp2_with fail
          go_ret
          exact ⟨rfl, HB2.out⟩
        have e1 : decide (60 < m) = false := decide_eq_false h1
        by_cases h2 : m < 0
        · have e2 : decide (m < 0) = true := decide_eq_true h2
          go_wp2_with fail
          go_ret
          exact ⟨rfl, HB2.out⟩
        have e2 : decide (m < 0) = false := decide_eq_false h2
        by_cases h3 : f < 0
        · have e3 : decide (f < 0) = true := decide_eq_true h3
          go_wp2_with fail
          go_ret
          exact ⟨rfl, HB2.out⟩
        have e3 : decide (f < 0) = false := decide_eq_false h3
        by_cases h4 : 1048576 < f
        · have e4 : decide (1048576 < f) = true := decide_eq_true h4
          go_wp2_with fail
          go_ret
          exact ⟨rfl, HB2.out⟩
        have e4 : decide (1048576 < f) = false := decide_eq_false h4
        have hg1 : goodP ps (i + 1) := fun j q hj hq => by
          by_cases e : j = i
          · subst e
            rw [hp] at hq
            injection hq with hq
            subst hq
            dsimp only
            exact ⟨⟨by omega, by omega⟩, by omega, by omega⟩
          · exact hg j q (by omega) hq
        have FG := Lib.hid (fun (k : Nat) (hk : (k : Int) < m) => find_good (by omega) hg1 hp hk)
        have hts := totG_succ hp
        try dsimp only at hts
        have htb := (begP_good (ps := ps) i (by omega) (by omega) hg).2
        have HG1 := Lib.hid hg1
        have HHP := Lib.hid hp
        clear hg hg1 hp
        obtain ⟨M, hM⟩ := Int.eq_ofNat_of_zero_le (show 0 ≤ m by omega)
        have HTS := Lib.hid hts
        clear hts
        generalize totG ps i = T at *
        go_wp2_with fail
        subst hM
        have hM60 : M ≤ 60 := by omega
        have HF0 := Lib.hid (And.intro h3 h4)
        clear e1 e2 e3 e4 h1 h2 h3 h4
        go_loopw [3, 5] (fun x3 x5 wr => ∃ k : Nat, k ≤ M ∧ x5 = .int .i64 (k : Int) ∧ x3 = .int .i64 ((T : Int) + (k : Int)) ∧ Below w.heap.size w wr) (fun _ x5 _ => M - (intOf x5).toNat)
        case atStart => exact ⟨0, by omega, rfl, by simp, HB2.out⟩
        case round =>
          obtain ⟨k, hk, rfl, rfl, hb⟩ := hrel
          have hrw := HR.out.on hb
          obtain ⟨g', off', ea, -, -, -, q2, q3⟩ := hrw i _ HHP.out
          injection ea with ea
          injection ea with ea1 ea2
          subst ea1 ea2
          try dsimp only at q2 q3
          have HB3 := Lib.hid hb
          by_cases hkl : k < M
          · obtain ⟨h3, h4⟩ := HF0.out
            have KF := HF.out _ ((T : Int) + k) hrw
            have ef := FG.out k (by omega)
            rw [ef] at KF
            replace KF := Lib.hid KF
            have z1 : decide ((k : Int) < (M : Int)) = true := decide_eq_true (by omega)
            have z2 : ((i : Int) != (i : Int)) = false := by simp
            have z3 : ((f + (k : Int)) != (f + (k : Int))) = false := by simp
            have z4 : IntKind.i64.wrap (f + (k : Int)) = f + k := IntWalk.i64_in _ ⟨by omega, by omega⟩
            have z5 : IntKind.i64.wrap ((T : Int) + (k : Int) + 1) = (T : Int) + k + 1 := IntWalk.i64_in _ ⟨by omega, by omega⟩
            clear hb hrw ef c2 c3 h3 h4
            go_wp2_with fail
            refine KF.out.mono ?_
            rintro e wf ⟨rfl, hbf⟩
            have hb4 := below_then HB3.out hbf
            obtain ⟨g', off', ea, -, -, -, q2', q3'⟩ := (HR.out.on hb4) i _ HHP.out
            injection ea with ea
            injection ea with ea1 ea2
            subst ea1 ea2
            try dsimp only at q2' q3'
            have HB4 := Lib.hid hb4
            clear hb4 hbf KF q2 q3
            go_wp2_with fail
            go_roundw
            case rel =>
              exact ⟨k + 1, by omega, by go_num, by congr 1, HB4.out⟩
            case measure => simp [intOf]; omega
          · obtain rfl : k = M := by omega
            have z1 : decide ((k : Int) < (k : Int)) = false := decide_eq_false (by omega)
            clear hb hrw c2 c3
            go_wp2_with fail
            go_roundw
            case rel => exact ⟨i + 1, by omega, by go_num, by rw [HTS.out]; simp, HG1.out, HB3.out⟩
            case measure => simp [intOf]; omega
      · obtain rfl : i = ps.length := by omega
        have z0 : decide ((ps.length : Int) < (ps.length : Int)) = false := decide_eq_false (by omega)
        have htb := (begP_good (ps := ps) ps.length (Nat.le_refl _) (by omega) hg).2
        have e1 := find_none (ps := ps) (by omega) hg (a := ((totG ps ps.length : Nat) : Int)) (Or.inr ⟨by omega, by omega⟩)
        have e2 := find_none (ps := ps) (by omega) hg (a := -1) (Or.inl (by omega))
        have e3 := len_good (ps := ps) (by omega) hg
        have KF := HF.out _ ((totG ps ps.length : Nat) : Int) (HR.out.on hb)
        rw [e1] at KF
        replace KF := Lib.hid KF
        rw [e3] at HL
        have E2 := Lib.hid e2
        have HB2 := Lib.hid hb
        clear e1 e2 e3 hb hg htb
        generalize totG ps ps.length = T at *
        go_wp2_with fail
        refine KF.out.mono ?_
        rintro e w2 ⟨rfl, hb2⟩
        have hb3 := below_then HB2.out hb2
        have KF2 := HF.out _ (-1) (HR.out.on hb3)
        rw [E2.out] at KF2
        replace KF2 := Lib.hid KF2
        have HB3 := Lib.hid hb3
        clear hb2 hb3 KF
        go_wp2_with fail
        refine KF2.out.mono ?_
        rintro e w3 ⟨rfl, hb4⟩
        have hb5 := below_then HB3.out hb4
        have s4 : St w3 None _ [_] := (St.begin w3).box 48 #[.int .i64 1, .int .i64 1]
        have KN := new_o s4 (rdm_blk (k := 1) (m := 2) (s4.blk 0 rfl) rfl) (Z := fun _ => 1) (C := fun _ => 1) (cap := 1) (fun j hj => by
          obtain rfl : j = 0 := by omega
          refine ⟨rfl, rfl, ?_, ?_⟩ <;> decide) mayOne
        rw [flatOne] at KN
        replace KN := Lib.hid KN
        have HB5 := Lib.hid hb5
        clear s4 hb4 hb5 KF2
        go_wp2_with fail
        refine KN.out.mono ?_
        rintro e w4 ⟨pp, rfl, s5'⟩
        have s5 : St w3 None w4 [_, PoolR pp 1 (fresh [1])] := s5'
        have hb6 := below_then HB5.out s5.below
        have KL := Lib.hid (HL.out _ (HR.out.on hb6))
        have S5 := Lib.hid s5
        have HB6 := Lib.hid hb6
        have zT : ((T : Int) == (T : Int)) = true := by simp
        clear s5 s5' hb6 KN
        go_wp2_with fail
        refine KL.out.mono ?_
        rintro e w5 ⟨rfl, hb7⟩
        have s6 := S5.out.stay hb7
        have KM := Lib.hid (may_o8 s6 1 rfl okOne none 0 [] (by simp) (by unfold maxLen; omega) (fun i p h => by simp at h) (fun g o h => by cases h))
        have HB7 := Lib.hid (below_then HB6.out hb7)
        clear s6 hb7
        go_wp2_with fail
        refine KM.out.mono ?_
        rintro e w6 ⟨rfl, s7⟩
        go_wp2_with fail
        go_ret
        exact ⟨rfl, below_then HB5.out s7.below⟩

set_option maxRecDepth 100000 in
theorem lifted (os : Os) (started : os.Started) (H : Type) (enc : TypeId × Value → H) :
    ReturnsInHanded {} Try.checked os 4 .any (Rows.piecesFindSpec.pre6 enc Try.prog Try.f4 Rows.piecesFindRow.domain false) (Rows.piecesFindSpec.post enc Try.prog Try.f4 false true false false) := by
  refine law_lifted (C := Try.checked) (tb := 4) own started (by kernel_rfl) Try.func4
    (ChangeSpec.witness6 (enc := enc) (C := Try.checked) false ⟨#[], #[.slice none 0 0], []⟩ 8 (by kernel_rfl) (by kernel_rfl) (by kernel_rfl) (by kernel_rfl)) laid (by kernel_rfl) (by kernel_rfl) Try.underlying4 rfl ?_
  intro W base args ds ps hval0 hA0 hlt
  have hval : ∀ (j : Nat) t v, Try.f4.params[j]? = some t → args[j]? = some v → Value.okWide Try.prog W .any base t v := hval0
  have hA : DataW.TrodAll enc Try.prog W 0 (fun _ => true) true Try.f4.params.toList args.toList ds ps := hA0
  clear hA0 hval0
  rw [Try.params4] at hA hval
  obtain ⟨v0, vs0, d0, ds0, p0, q0, hargs, rfl, rfl, h0, r0⟩ := trodAll_cons hA
  obtain ⟨rfl, rfl, rfl⟩ := trodAll_nil r0
  obtain rfl : args = #[v0] := by cases args; simp_all
  obtain ⟨A0, n0, cap0, V0, rfl, le0, mx0, rd0, lf0⟩ := open_slice_spots (m := 4) (d := 20) (l := [(0, 3), (1, 38), (2, 3), (3, 3)]) Try.underlying22 (by kernel_rfl) (by decide) (by kernel_rfl) (hval 0 22 v0 rfl rfl) h0
  have f0_0 := fun j hj => leaf_int Try.underlying3 (lf0 0 3 (by simp) j hj)
  have f0_1 := fun j hj => leaf_int Try.underlying38 (lf0 1 38 (by simp) j hj)
  have f0_2 := fun j hj => leaf_int Try.underlying3 (lf0 2 3 (by simp) j hj)
  have f0_3 := fun j hj => leaf_int Try.underlying3 (lf0 3 3 (by simp) j hj)
  refine ⟨⟨rfl, rfl, rfl⟩, ?_⟩
  haveI : Inhabited Pc := ⟨⟨0, 0, 0, 0⟩⟩
  obtain ⟨T, hT⟩ := Go.Deep.choose_lt (n := n0) (p := fun j (d : Pc) => (V0 j 0 = .int .i64 d.s ∧ V0 j 1 = .int .u64 d.g ∧ V0 j 2 = .int .i64 d.f ∧ V0 j 3 = .int .i64 d.m) ∧ d.wf) (fun j hj => by
    obtain ⟨x0, h0, w0⟩ := f0_0 j hj
    obtain ⟨x1, h1, w1⟩ := f0_1 j hj
    obtain ⟨x2, h2, w2⟩ := f0_2 j hj
    obtain ⟨x3, h3, w3⟩ := f0_3 j hj
    exact ⟨⟨x0, x1, x2, x3⟩, ⟨h0, h1, h2, h3⟩, bounds_i64 w0, bounds_u64 w1, bounds_i64 w2, bounds_i64 w3⟩)
  have hl : ((List.range n0).map T).length = n0 := by simp
  have hw := walk A0 cap0 ((List.range n0).map T) W (by rw [hl]; omega) (by omega) (fun q hq => by
    obtain ⟨j, hj, rfl⟩ := List.mem_map.1 hq
    exact (hT j (List.mem_range.1 hj)).2) (rdp_rdm rd0 fun j hj => (hT j hj).1)
  rw [hl] at hw
  exact hw

theorem over : Rows.piecesFindRow.holds Try.pinned (OpenSpec.ofChange Rows.piecesFindSpec) :=
  OpenClaim.holds_of_wide 4 Try.f4 rfl rfl rfl rfl rfl rfl rfl ⟨rfl, rfl, rfl, rfl, rfl⟩ rfl rfl rfl rfl rfl (by kernel_rfl) Try.func4 (by kernel_rfl)
    (of_decide_eq_true (by kernel_rfl)) (by unfold Func.isWrapper; first | (rw [if_pos (by decide +kernel)]; kernel_rfl) | (rw [if_neg (by decide +kernel)]; exact ⟨rfl, rfl⟩))
    (fun os started H enc _ => lifted os started H enc)
theorem proved : Rows.PiecesFindSaid := over
#print axioms proved
end Go.Proofs.Ytiaojhjghededaa.piecesFind
