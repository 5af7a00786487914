/-
  For every list of pieces and any two numbers PiecesGive answers true, and changes nothing: given from one owner to another one all buffers of a list are that one's, and back again; what may not be given stays. No condition.
-/
import Derived.Test.YtiaojhjghededaaRows
import Derived.Test.YtiaojhjghededaaFr
import Derived.Test.YtiaojhjghededaaPieX
import Derived.Test.YtiaojhjghededaaOpen
namespace Go.Proofs.Ytiaojhjghededaa.piecesGive
open Go.ChangeShapes Go.WideShapes Go.ChangeAt Go.RowKit
set_option linter.unusedVariables false
theorem own : ownKnob Try.prog.godebug = none := by kernel_rfl
theorem laid : laidOutB Try.prog = true := by kernel_rfl
set_option maxRecDepth 100000
set_option maxHeartbeats 3200000
theorem walk (A : Option Addr) (cap : Nat) (ps : List Pc) (a b : Int) (w : World) (hm : ps.length ≤ cap) (hcap : cap ≤ maxLen) (hwf : ∀ q ∈ ps, q.wf) (hR : RdP w A ps) (ha : 0 ≤ a ∧ a ≤ 255) (hb : 0 ≤ b ∧ b ≤ 255) :
    Calls Try.prog 5 #[.slice A ps.length cap, .int .u8 a, .int .u8 b] w fun r w' => r = .returned (.bool true) ∧ Below w.heap.size w w' := by
  obtain ⟨a1, a2⟩ := ha
  obtain ⟨b1, b2⟩ := hb
  by_cases hn : 16 < ps.length
  · have d1 : decide (16 < (ps.length : Int)) = true := decide_eq_true (by omega)
    clear hR hwf
    go_enter Try.func5, Try.ntmps5
    go_wp2_with fail
    refine (awake_o (St.begin w)).mono ?_
    rintro e w1 ⟨rfl, s1⟩
    go_wp2_with fail
    go_ret
    exact ⟨rfl, s1.below⟩
  have d1 : decide (16 < (ps.length : Int)) = false := decide_eq_false (by omega)
  obtain ⟨x, hx⟩ : ∃ x, Int.tmod a 5 = x := ⟨_, rfl⟩
  obtain ⟨y, hy⟩ : ∃ y, Int.tmod b 5 = y := ⟨_, rfl⟩
  have hx2 : 0 ≤ x ∧ x < 5 := by rw [← hx, Int.tmod_eq_emod_of_nonneg a1]; omega
  have hy2 : 0 ≤ y ∧ y < 5 := by rw [← hy, Int.tmod_eq_emod_of_nonneg b1]; omega
  have HR := Lib.hid hR
  have HWF := Lib.hid hwf
  have HN0 := Lib.hid (show notIn A None from fun g o _ h => h)
  clear hR hwf
  by_cases hmy : mayL 6 (gs 4) ps = true
  rotate_left 1
  · have hmy : mayL 6 (gs 4) ps = false := by simpa using hmy
    have GA := Lib.hid (fun (W : World) (p : Nat) (h : St w None W [PoolR p 6 (gs 4)]) => give_arg h 0 rfl (gs_ok 4 (by omega)) A cap ps hm hcap HR.out HN0.out x y hmy)
    have MA := Lib.hid (fun (W : World) (p : Nat) (h : St w None W [PoolR p 6 (gs 4)]) => may_o8 h 0 rfl (gs_ok 4 (by omega)) A cap ps hm hcap HR.out HN0.out)
    rw [hmy] at MA
    clear hmy
    go_enter Try.func5, Try.ntmps5
    go_wp2_with fail
    refine (awake_o (St.begin w)).mono ?_
    rintro e w1 ⟨rfl, s1⟩
    go_wp2_with fail
    refine (both_o s1).mono ?_
    rintro e w2 ⟨p, r, rfl, s2'⟩
    have K2 := Lib.hid (GA.out w2 p s2')
    clear s1 s2'
    go_wp2_with fail
    refine K2.out.mono ?_
    rintro e w3 ⟨rfl, s3⟩
    have K3 := Lib.hid (MA.out w3 p s3)
    clear s3 K2
    go_wp2_with fail
    refine K3.out.mono ?_
    rintro e w4 ⟨rfl, s4⟩
    go_wp2_with fail
    go_ret
    exact ⟨rfl, s4.below⟩
  have hO := own_gs4 hmy
  obtain ⟨-, -, -, hl1, hl16⟩ := may_wf (gs_ok 4 (by omega)) hmy
  obtain ⟨h0, r0, hhd⟩ := bufs_head hl1
  have hh0 : h0 ∈ bufsP ps := by rw [hhd]; exact List.mem_cons_self
  by_cases hr : x = 1 ∧ (2 ≤ y ∧ y ≤ 3)
  · obtain ⟨rfl, hy3, hy4⟩ := hr
    have z1 : decide (2 ≤ y) = true := decide_eq_true hy3
    have z2 : decide (y ≤ 3) = true := decide_eq_true hy4
    have hwho : who 1 ∧ who y ∧ (1 : Int) ≠ y := ⟨⟨by omega, by omega⟩, ⟨by omega, by omega⟩, by omega⟩
    have ok1 : POK 6 (gvS (gs 4) (bufsP ps) y) 2 := gvS_ok (gs_ok 4 (by omega)) _ hwho.2.1
    have hO1 : OwnAll (gvS (gs 4) (bufsP ps) y) ps y := own_gv hO y
    have hm1 : mayL 6 (gvS (gs 4) (bufsP ps) y) ps = true := by rw [mayL_gv 6 _ _ (by omega) (own_live hO (by omega))]; exact hmy
    have ok2 : POK 6 (gvS (gvS (gs 4) (bufsP ps) y) (bufsP ps) 1) 2 := gvS_ok ok1 _ hwho.1
    have hO2 : OwnAll (gvS (gvS (gs 4) (bufsP ps) y) (bufsP ps) 1) ps 1 := own_gv hO1 1
    have hm2 : mayL 6 (gvS (gvS (gs 4) (bufsP ps) y) (bufsP ps) 1) ps = true := by rw [mayL_gv 6 _ _ (by omega) (own_live hO1 (by omega))]; exact hm1
    obtain ⟨c3, hc3, hc4, hv3⟩ := give_refused hO2 (by omega) hh0 (a := y) (z := 1) (by omega)
    obtain rfl : c3 = 8 := by
      rcases hc4 with ⟨h, -⟩ | ⟨-, h⟩
      · exact absurd ⟨hwho.2.1, hwho.1, Ne.symm hwho.2.2⟩ h
      · exact h
    have GA := Lib.hid (fun (W : World) (p : Nat) (h : St w None W [PoolR p 6 (gs 4)]) => give_all h 0 rfl (gs_ok 4 (by omega)) A cap ps hm (by omega) hcap HWF.out HR.out HN0.out 1 y hmy hwho (own_of hO (by omega)))
    obtain ⟨st1, hst1⟩ : ∃ st1, gvS (gs 4) (bufsP ps) y = st1 := ⟨_, rfl⟩
    rw [hst1] at ok1 hO1 hm1 ok2 hO2 hm2 hv3 GA
    have MA := Lib.hid (fun (W : World) (p : Nat) (h : St w None W [PoolR p 6 st1]) => may_o8 h 0 rfl ok1 A cap ps hm hcap HR.out HN0.out)
    rw [hm1] at MA
    have GB := Lib.hid (fun (W : World) (p : Nat) (h : St w None W [PoolR p 6 st1]) => give_all h 0 rfl ok1 A cap ps hm (by omega) hcap HWF.out HR.out HN0.out y 1 hm1 ⟨hwho.2.1, hwho.1, Ne.symm hwho.2.2⟩ (own_of hO1 (by omega)))
    obtain ⟨st2, hst2⟩ : ∃ st2, gvS st1 (bufsP ps) 1 = st2 := ⟨_, rfl⟩
    rw [hst2] at ok2 hO2 hm2 hv3 GB
    have GC := Lib.hid (fun (W : World) (p : Nat) (h : St w None W [PoolR p 6 st2]) => give_first h 0 rfl ok2 A cap ps hm (by omega) hcap HWF.out HR.out HN0.out y 1 hm2 hhd hv3 (by omega))
    have OW := Lib.hid (fun (W : World) (p : Nat) (h : St w None W [PoolR p 6 st1]) (q : Pc) (hq : q ∈ ps) => (own_one hO1 (by omega) hq).elim fun r h2 => Exists.intro r (owner_o h 0 rfl ok1 h2))
    have z3 : (y != y) = false := by simp
    clear hO hO1 hO2 hm1 hm2 hmy ok1 ok2 hst1 hst2 hv3 hwho hhd hh0 hl1 hc3 hc4
    go_enter Try.func5, Try.ntmps5
    go_wp2_with fail
    refine (awake_o (St.begin w)).mono ?_
    rintro e w1 ⟨rfl, s1⟩
    go_wp2_with fail
    refine (both_o s1).mono ?_
    rintro e w2 ⟨p, r, rfl, s2'⟩
    have K2 := Lib.hid (GA.out w2 p s2')
    clear s1 s2'
    go_wp2_with fail
    refine K2.out.mono ?_
    rintro e w3 ⟨rfl, s3⟩
    have K3 := Lib.hid (MA.out w3 p s3)
    clear s3 K2
    go_wp2_with fail
    refine K3.out.mono ?_
    rintro e w4 ⟨rfl, s4⟩
    have S4 := Lib.hid s4
    clear s4 K3
    go_wp2_with fail
    go_loopw [14] (fun i wr => ∃ k : Nat, k ≤ ps.length ∧ i = .int .i64 (k : Int) ∧ St w None wr [PoolR p 6 st1]) (fun i _ => ps.length - (intOf i).toNat)
    case atStart => exact ⟨0, by omega, rfl, S4.out⟩
    case round =>
      clear S4
      obtain ⟨k, hk, rfl, sr⟩ := hrel
      by_cases hlt : k < ps.length
      · obtain ⟨q, hq⟩ : ∃ q, ps[k]? = some q := ⟨ps[k], List.getElem?_eq_getElem hlt⟩
        obtain ⟨g, off, rfl, -, c0, c1, -, -⟩ := (sr.rdp HR.out HN0.out) k q hq
        have i0 : (0 : Int) ≤ (k : Int) := by omega
        have i1 : (k : Int) < (ps.length : Int) := by omega
        obtain ⟨rf, KO⟩ := OW.out _ p sr q (List.mem_of_getElem? hq)
        replace KO := Lib.hid KO
        clear sr hq
        go_wp2_with fail
        refine KO.out.mono ?_
        rintro e w5 ⟨rfl, s5⟩
        have S5 := Lib.hid s5
        clear s5 KO c0 c1
        go_wp2_with fail
        go_roundw
        case rel => exact ⟨k + 1, by omega, by go_num, S5.out⟩
        case measure => simp [intOf]; omega
      · obtain rfl : k = ps.length := by omega
        have i1 : decide ((ps.length : Int) < (ps.length : Int)) = false := decide_eq_false (by omega)
        have K5 := Lib.hid (GB.out _ p sr)
        clear sr
        go_wp2_with fail
        refine K5.out.mono ?_
        rintro e w5 ⟨rfl, s5⟩
        have K6 := Lib.hid (GC.out _ p s5)
        clear s5 K5
        go_wp2_with fail
        refine K6.out.mono ?_
        rintro e w6 ⟨rfl, s6⟩
        go_wp2_with fail
        go_ret
        exact ⟨rfl, s6.below⟩
  · obtain ⟨c3, hc3, -, hv3⟩ := give_refused hO (by omega) hh0 (a := x) (z := y) (fun h => hr ⟨h.1, by have := h.2.2.1; unfold who at this; omega, by have := h.2.2.1; unfold who at this; omega⟩)
    have GA := Lib.hid (fun (W : World) (p : Nat) (h : St w None W [PoolR p 6 (gs 4)]) => give_first h 0 rfl (gs_ok 4 (by omega)) A cap ps hm (by omega) hcap HWF.out HR.out HN0.out x y hmy hhd hv3 hc3)
    have MA := Lib.hid (fun (W : World) (p : Nat) (h : St w None W [PoolR p 6 (gs 4)]) => may_o8 h 0 rfl (gs_ok 4 (by omega)) A cap ps hm hcap HR.out HN0.out)
    rw [hmy] at MA
    have OW := Lib.hid (fun (W : World) (p : Nat) (h : St w None W [PoolR p 6 (gs 4)]) (q : Pc) (hq : q ∈ ps) => (own_one hO (by omega) hq).elim fun r h2 => Exists.intro r (owner_o h 0 rfl (gs_ok 4 (by omega)) h2))
    have zc : (c3 == 0) = false := beq_eq_false_iff_ne.2 hc3
    have hcase : ((x == 1) = false) ∨ ((x == 1) = true ∧ decide (2 ≤ y) = false) ∨ ((x == 1) = true ∧ decide (2 ≤ y) = true ∧ decide (y ≤ 3) = false) := by
      by_cases h1 : x = 1
      · by_cases h2 : 2 ≤ y
        · by_cases h3 : y ≤ 3
          · exact absurd ⟨h1, h2, h3⟩ hr
          · exact Or.inr (Or.inr ⟨by simp [h1], decide_eq_true h2, decide_eq_false h3⟩)
        · exact Or.inr (Or.inl ⟨by simp [h1], decide_eq_false h2⟩)
      · exact Or.inl (beq_eq_false_iff_ne.2 h1)
    clear hO hmy hv3 hhd hh0 hl1 hc3 hr
    rcases hcase with e1 | ⟨e1, e2⟩ | ⟨e1, e2, e3⟩
    all_goals
      go_enter Try.func5, Try.ntmps5
      go_wp2_with fail
      refine (awake_o (St.begin w)).mono ?_
      rintro e w1 ⟨rfl, s1⟩
      go_wp2_with fail
      refine (both_o s1).mono ?_
      rintro e w2 ⟨p, r, rfl, s2'⟩
      have K2 := Lib.hid (GA.out w2 p s2')
      clear s1 s2'
      go_wp2_with fail
      refine K2.out.mono ?_
      rintro e w3 ⟨rfl, s3⟩
      have K3 := Lib.hid (MA.out w3 p s3)
      clear s3 K2
      go_wp2_with fail
      refine K3.out.mono ?_
      rintro e w4 ⟨rfl, s4⟩
      have S4 := Lib.hid s4
      clear s4 K3
      go_wp2_with fail
      go_loopw [14] (fun i wr => ∃ k : Nat, k ≤ ps.length ∧ i = .int .i64 (k : Int) ∧ St w None wr [PoolR p 6 (gs 4)]) (fun i _ => ps.length - (intOf i).toNat)
      case atStart => exact ⟨0, by omega, rfl, S4.out⟩
      case round =>
        clear S4
        obtain ⟨k, hk, rfl, sr⟩ := hrel
        by_cases hlt : k < ps.length
        · obtain ⟨q, hq⟩ : ∃ q, ps[k]? = some q := ⟨ps[k], List.getElem?_eq_getElem hlt⟩
          obtain ⟨g, off, rfl, -, c0, c1, -, -⟩ := (sr.rdp HR.out HN0.out) k q hq
          have i0 : (0 : Int) ≤ (k : Int) := by omega
          have i1 : (k : Int) < (ps.length : Int) := by omega
          obtain ⟨rf, KO⟩ := OW.out _ p sr q (List.mem_of_getElem? hq)
          replace KO := Lib.hid KO
          clear sr hq
          go_wp2_with fail
          refine KO.out.mono ?_
          rintro e w5 ⟨rfl, s5⟩
          have S5 := Lib.hid s5
          clear s5 KO c0 c1
          go_wp2_with fail
          go_roundw
          case rel => exact ⟨k + 1, by omega, by go_num, S5.out⟩
          case measure => simp [intOf]; omega
        · obtain rfl : k = ps.length := by omega
          have i1 : decide ((ps.length : Int) < (ps.length : Int)) = false := decide_eq_false (by omega)
          have SR := Lib.hid sr
          clear sr
          go_wp2_with fail
          go_ret
          exact ⟨rfl, SR.out.below⟩

set_option maxRecDepth 100000 in
theorem lifted (os : Os) (started : os.Started) (H : Type) (enc : TypeId × Value → H) :
    ReturnsInHanded {} Try.checked os 5 .any (Rows.piecesGiveSpec.pre6 enc Try.prog Try.f5 Rows.piecesGiveRow.domain false) (Rows.piecesGiveSpec.post enc Try.prog Try.f5 false true false false) := by
  refine law_lifted (C := Try.checked) (tb := 4) own started (by kernel_rfl) Try.func5
    (ChangeSpec.witness6 (enc := enc) (C := Try.checked) false ⟨#[], #[.slice none 0 0, .int .u8 0, .int .u8 0], []⟩ 8 (by kernel_rfl) (by kernel_rfl) (by kernel_rfl) (by kernel_rfl)) laid (by kernel_rfl) (by kernel_rfl) Try.underlying4 rfl ?_
  intro W base args ds ps hval0 hA0 hlt
  have hval : ∀ (j : Nat) t v, Try.f5.params[j]? = some t → args[j]? = some v → Value.okWide Try.prog W .any base t v := hval0
  have hA : DataW.TrodAll enc Try.prog W 0 (fun _ => true) true Try.f5.params.toList args.toList ds ps := hA0
  clear hA0 hval0
  rw [Try.params5] at hA hval
  obtain ⟨v0, vs0, d0, ds0, p0, q0, hargs, rfl, rfl, h0, r0⟩ := trodAll_cons hA
  obtain ⟨v1, vs1, d1, ds1, p1, q1, rfl, rfl, rfl, h1, r1⟩ := trodAll_cons r0
  obtain ⟨v2, vs2, d2, ds2, p2, q2, rfl, rfl, rfl, h2, r2⟩ := trodAll_cons r1
  obtain ⟨rfl, rfl, rfl⟩ := trodAll_nil r2
  obtain rfl : args = #[v0, v1, v2] := by cases args; simp_all
  obtain ⟨A0, n0, cap0, V0, rfl, le0, mx0, rd0, lf0⟩ := open_slice_spots (m := 4) (d := 20) (l := [(0, 3), (1, 38), (2, 3), (3, 3)]) Try.underlying22 (by kernel_rfl) (by decide) (by kernel_rfl) (hval 0 22 v0 rfl rfl) h0
  have f0_0 := fun j hj => leaf_int Try.underlying3 (lf0 0 3 (by simp) j hj)
  have f0_1 := fun j hj => leaf_int Try.underlying38 (lf0 1 38 (by simp) j hj)
  have f0_2 := fun j hj => leaf_int Try.underlying3 (lf0 2 3 (by simp) j hj)
  have f0_3 := fun j hj => leaf_int Try.underlying3 (lf0 3 3 (by simp) j hj)
  obtain ⟨a1, rfl, rfl, rfl, w1⟩ := open_int Try.underlying5 (hval 1 5 v1 rfl rfl) h1
  obtain ⟨a2, rfl, rfl, rfl, w2⟩ := open_int Try.underlying5 (hval 2 5 v2 rfl rfl) h2
  refine ⟨⟨rfl, rfl, rfl⟩, ?_⟩
  haveI : Inhabited Pc := ⟨⟨0, 0, 0, 0⟩⟩
  obtain ⟨T, hT⟩ := Go.Deep.choose_lt (n := n0) (p := fun j (d : Pc) => (V0 j 0 = .int .i64 d.s ∧ V0 j 1 = .int .u64 d.g ∧ V0 j 2 = .int .i64 d.f ∧ V0 j 3 = .int .i64 d.m) ∧ d.wf) (fun j hj => by
    obtain ⟨x0, h0, w0⟩ := f0_0 j hj
    obtain ⟨x1, h1, w1⟩ := f0_1 j hj
    obtain ⟨x2, h2, w2⟩ := f0_2 j hj
    obtain ⟨x3, h3, w3⟩ := f0_3 j hj
    exact ⟨⟨x0, x1, x2, x3⟩, ⟨h0, h1, h2, h3⟩, bounds_i64 w0, bounds_u64 w1, bounds_i64 w2, bounds_i64 w3⟩)
  have hl : ((List.range n0).map T).length = n0 := by simp
  have hw := walk A0 cap0 ((List.range n0).map T) a1 a2 W (by rw [hl]; omega) (by omega) (fun q hq => by
    obtain ⟨j, hj, rfl⟩ := List.mem_map.1 hq
    exact (hT j (List.mem_range.1 hj)).2) (rdp_rdm rd0 fun j hj => (hT j hj).1) (bounds_u8 w1) (bounds_u8 w2)
  rw [hl] at hw
  exact hw

theorem over : Rows.piecesGiveRow.holds Try.pinned (OpenSpec.ofChange Rows.piecesGiveSpec) :=
  OpenClaim.holds_of_wide 5 Try.f5 rfl rfl rfl rfl rfl rfl rfl ⟨rfl, rfl, rfl, rfl, rfl⟩ rfl rfl rfl rfl rfl (by kernel_rfl) Try.func5 (by kernel_rfl)
    (of_decide_eq_true (by kernel_rfl)) (by unfold Func.isWrapper; first | (rw [if_pos (by decide +kernel)]; kernel_rfl) | (rw [if_neg (by decide +kernel)]; exact ⟨rfl, rfl⟩))
    (fun os started H enc _ => lifted os started H enc)
theorem proved : Rows.PiecesGiveSaid := over
#print axioms proved
end Go.Proofs.Ytiaojhjghededaa.piecesGive
