/-
  For every three unsigned 64-bit numbers TickWindows answers true, and changes nothing: Window and Next are what the document says. No condition.
-/
import Derived.Test.YtbhkghlgchoglaaRows
import Derived.WalkKit
import Derived.ProofKit
import Derived.OpenShut
import Derived.Test.YtbhkghlgchoglaaTickAw
import Derived.Test.YtbhkghlgchoglaaTickRef
import Derived.Test.YtbhkghlgchoglaaTickV
namespace Go.Proofs.Ytbhkghlgchoglaa.tickWindows
open Go.ChangeShapes Go.WideShapes Go.ChangeAt Go.RowKit
set_option linter.unusedVariables false      -- a walk need not use every 'w<i>' (that an integer argument fits its kind)

theorem own : ownKnob Try.prog.godebug = none := by kernel_rfl

theorem rwin_eq (t p d : Int) (hd : 1 ≤ d) : (t - p - (t - p) % d) / d = (t - p) / d ∧ t - (t - p) % d = p + (t - p) / d * d := by
  have e := Int.mul_ediv_add_emod (t - p) d
  have e2 : t - p - (t - p) % d = d * ((t - p) / d) := by omega
  refine ⟨by rw [e2, Int.mul_ediv_cancel_left _ (by omega)], ?_⟩
  rw [Int.mul_comm] at e; omega
theorem rwindow_ok (t p d : Int) (w : World) (h0 : 0 ≤ p) (hp : p ≤ t) (ht : t < 4611686018427387904) (h1 : 1 ≤ d ∧ d ≤ 4611686018427387904) : Calls Try.prog 21 #[.int .u64 t, .int .u64 p, .int .u64 d] w fun e w' => e = .returned (.tuple #[.int .u64 ((t - p) / d), .int .u64 (p + (t - p) / d * d), .int .i64 0]) ∧ w = w' := by
  obtain ⟨e1, e2⟩ := rwin_eq t p d h1.1
  rw [← e2, ← e1]
  clear e1 e2
  have r0 : 0 ≤ (t - p) % d := Int.emod_nonneg _ (by omega)
  have r1 : (t - p) % d ≤ t - p := by have e := Int.mul_ediv_add_emod (t - p) d; have := Int.mul_nonneg (show 0 ≤ d by omega) (Int.ediv_nonneg (show 0 ≤ t - p by omega) (show 0 ≤ d by omega)); omega
  obtain ⟨g1, g2⟩ := h1
  have z1 : (d == 0) = false := beq_eq_false_iff_ne.2 (by omega)
  have z2 : decide (4611686018427387904 < d) = false := decide_eq_false (by omega)
  have z3 : decide (t < p) = false := decide_eq_false (by omega)
  have m0 : 0 ≤ (t - p - (t - p) % d) / d := Int.ediv_nonneg (by omega) (by omega)
  have m1 : (t - p - (t - p) % d) / d ≤ t - p - (t - p) % d := Int.ediv_le_self _ (by omega)
  go_enter Try.func21, Try.ntmps21
  go_wp2_with (first | (go_at_call 15; refine (rmay_yes _ _ (by omega)).mono ?_; rintro e w' ⟨rfl, rfl⟩) | go_in)
  go_ret3
  exact ⟨rfl, rfl⟩
theorem rwindow_arg (t p d : Int) (w : World) (h0 : 0 ≤ d) (ht : t < 4611686018427387904) (hp : p < 4611686018427387904) (h : ¬ (1 ≤ d ∧ d ≤ 4611686018427387904 ∧ p ≤ t)) : Calls Try.prog 21 #[.int .u64 t, .int .u64 p, .int .u64 d] w fun e w' => e = .returned (.tuple #[.int .u64 0, .int .u64 0, .int .i64 1]) ∧ w = w' := by
  by_cases h1 : 1 ≤ d
  · have z1 : (d == 0) = false := beq_eq_false_iff_ne.2 (by omega)
    by_cases h2 : 4611686018427387904 < d
    · have z2 : decide (4611686018427387904 < d) = true := decide_eq_true h2
      clear h
      go_enter Try.func21, Try.ntmps21
      go_wp2_with (first | (go_at_call 15; refine (rmay_yes _ _ (by omega)).mono ?_; rintro e w' ⟨rfl, rfl⟩) | go_in)
      go_ret3
      exact ⟨rfl, rfl⟩
    · have z2 : decide (4611686018427387904 < d) = false := decide_eq_false h2
      have z3 : decide (t < p) = true := decide_eq_true (by omega)
      clear h
      go_enter Try.func21, Try.ntmps21
      go_wp2_with (first | (go_at_call 15; refine (rmay_yes _ _ (by omega)).mono ?_; rintro e w' ⟨rfl, rfl⟩) | go_in)
      go_ret3
      exact ⟨rfl, rfl⟩
  · obtain rfl : d = 0 := by omega
    clear h
    go_enter Try.func21, Try.ntmps21
    go_wp2_with (first | (go_at_call 15; refine (rmay_yes _ _ (by omega)).mono ?_; rintro e w' ⟨rfl, rfl⟩) | go_in)
    go_ret3
    exact ⟨rfl, rfl⟩
theorem rwindow_hor (t p d : Int) (w : World) (h : ¬ (t < 4611686018427387904 ∧ p < 4611686018427387904)) : Calls Try.prog 21 #[.int .u64 t, .int .u64 p, .int .u64 d] w fun e w' => e = .returned (.tuple #[.int .u64 0, .int .u64 0, .int .i64 2]) ∧ w = w' := by
  by_cases h2 : t < 4611686018427387904
  · have d1 : decide (t ≤ 4611686018427387903) = true := decide_eq_true (by omega)
    have d2 : decide (p ≤ 4611686018427387903) = false := decide_eq_false (by omega)
    clear h
    go_enter Try.func21, Try.ntmps21
    go_wp2
    go_ret3
    exact ⟨rfl, rfl⟩
  · have d1 : decide (t ≤ 4611686018427387903) = false := decide_eq_false (by omega)
    clear h
    go_enter Try.func21, Try.ntmps21
    go_wp2
    go_ret3
    exact ⟨rfl, rfl⟩
theorem rwindow_v (t p d : Int) (w : World) (h0 : 0 ≤ p) (h1 : 0 ≤ d) : Calls Try.prog 21 #[.int .u64 t, .int .u64 p, .int .u64 d] w fun e w' => e = .returned (.tuple #[.int .u64 (winK t p d), .int .u64 (winA t p d), .int .i64 (winE t p d)]) ∧ w = w' := by
  unfold winK winA winE
  by_cases h : hok p t
  · by_cases k : wok p t d
    · simp only [if_pos h, if_pos k]; exact rwindow_ok t p d w h0 k.2.2 h.1 ⟨k.1, k.2.1⟩
    · simp only [if_pos h, if_neg k]; exact rwindow_arg t p d w h1 h.1 h.2 k
  · simp only [if_neg h]; exact rwindow_hor t p d w h
theorem rnext_hor (t p d : Int) (w : World) (h : ¬ (t < 4611686018427387904 ∧ p < 4611686018427387904)) : Calls Try.prog 23 #[.int .u64 t, .int .u64 p, .int .u64 d] w fun e w' => e = .returned (.tuple #[.int .u64 0, .int .i64 2]) ∧ w = w' := by
  by_cases h2 : t < 4611686018427387904
  · have d1 : decide (t ≤ 4611686018427387903) = true := decide_eq_true (by omega)
    have d2 : decide (p ≤ 4611686018427387903) = false := decide_eq_false (by omega)
    clear h
    go_enter Try.func23, Try.ntmps23
    go_wp2
    go_ret2
    exact ⟨rfl, rfl⟩
  · have d1 : decide (t ≤ 4611686018427387903) = false := decide_eq_false (by omega)
    clear h
    go_enter Try.func23, Try.ntmps23
    go_wp2
    go_ret2
    exact ⟨rfl, rfl⟩
theorem rnext_arg (t p d : Int) (w : World) (h0 : 0 ≤ d) (ht : t < 4611686018427387904) (hp : p < 4611686018427387904) (h : ¬ (1 ≤ d ∧ d ≤ 4611686018427387904)) : Calls Try.prog 23 #[.int .u64 t, .int .u64 p, .int .u64 d] w fun e w' => e = .returned (.tuple #[.int .u64 0, .int .i64 1]) ∧ w = w' := by
  by_cases h1 : 1 ≤ d
  · have z1 : (d == 0) = false := beq_eq_false_iff_ne.2 (by omega)
    have z2 : decide (4611686018427387904 < d) = true := decide_eq_true (by omega)
    clear h
    go_enter Try.func23, Try.ntmps23
    go_wp2_with (first | (go_at_call 15; refine (rmay_yes _ _ (by omega)).mono ?_; rintro e w' ⟨rfl, rfl⟩) | go_in)
    go_ret2
    exact ⟨rfl, rfl⟩
  · obtain rfl : d = 0 := by omega
    clear h
    go_enter Try.func23, Try.ntmps23
    go_wp2_with (first | (go_at_call 15; refine (rmay_yes _ _ (by omega)).mono ?_; rintro e w' ⟨rfl, rfl⟩) | go_in)
    go_ret2
    exact ⟨rfl, rfl⟩
theorem rnext_pre (t p d : Int) (w : World) (hp : p < 4611686018427387904) (h : 1 ≤ d ∧ d ≤ 4611686018427387904) (ht : t < p) : Calls Try.prog 23 #[.int .u64 t, .int .u64 p, .int .u64 d] w fun e w' => e = .returned (.tuple #[.int .u64 p, .int .i64 0]) ∧ w = w' := by
  obtain ⟨g1, g2⟩ := h
  have z1 : (d == 0) = false := beq_eq_false_iff_ne.2 (by omega)
  have z2 : decide (4611686018427387904 < d) = false := decide_eq_false (by omega)
  have z3 : decide (t < p) = true := decide_eq_true (by omega)
  go_enter Try.func23, Try.ntmps23
  go_wp2_with (first | (go_at_call 15; refine (rmay_yes _ _ (by omega)).mono ?_; rintro e w' ⟨rfl, rfl⟩) | go_in)
  go_ret2
  exact ⟨rfl, rfl⟩
theorem rnext_post (t p d : Int) (w : World) (v c : Int) (h0 : 0 ≤ p) (hp : p ≤ t) (ht : t < 4611686018427387904) (h : 1 ≤ d ∧ d ≤ 4611686018427387904) (hc : ∀ w, Calls Try.prog 13 #[.int .u64 (t - (t - p) % d), .int .u64 d] w fun e w' => e = .returned (.tuple #[.int .u64 v, .int .i64 c]) ∧ w = w') : Calls Try.prog 23 #[.int .u64 t, .int .u64 p, .int .u64 d] w fun e w' => e = .returned (.tuple #[.int .u64 v, .int .i64 c]) ∧ w = w' := by
  obtain ⟨g1, g2⟩ := h
  have r0 : 0 ≤ (t - p) % d := Int.emod_nonneg _ (by omega)
  have r1 : (t - p) % d ≤ t - p := by have e := Int.mul_ediv_add_emod (t - p) d; have := Int.mul_nonneg (show 0 ≤ d by omega) (Int.ediv_nonneg (show 0 ≤ t - p by omega) (show 0 ≤ d by omega)); omega
  have z1 : (d == 0) = false := beq_eq_false_iff_ne.2 (by omega)
  have z2 : decide (4611686018427387904 < d) = false := decide_eq_false (by omega)
  have z3 : decide (t < p) = false := decide_eq_false (by omega)
  have H := Lib.hid hc
  clear hc
  go_enter Try.func23, Try.ntmps23
  go_wp2_with (first | (go_at_call 15; refine (rmay_yes _ _ (by omega)).mono ?_; rintro e w' ⟨rfl, rfl⟩) | (go_at_call 13; refine (H.out _).mono ?_; rintro e w' ⟨rfl, rfl⟩) | go_in)
  go_ret2
  exact ⟨rfl, rfl⟩
theorem rnext_v (t p d : Int) (w : World) (h0 : 0 ≤ p) (h1 : 0 ≤ d) : Calls Try.prog 23 #[.int .u64 t, .int .u64 p, .int .u64 d] w fun e w' => e = .returned (.tuple #[.int .u64 (nxtV t p d), .int .i64 (nxtE t p d)]) ∧ w = w' := by
  unfold nxtV nxtE
  by_cases h : hok p t
  · by_cases k : pok d
    · by_cases l : t < p
      · simp only [if_pos h, if_pos k, if_pos l]; exact rnext_pre t p d w h.2 k l
      · have e2 := (rwin_eq t p d k.1).2
        obtain ⟨m0, m1, m2, m3, _⟩ := win_le (show p ≤ t by omega) k.1
        by_cases m : p + (t - p) / d * d + d < 4611686018427387904
        · simp only [if_pos h, if_pos k, if_neg l, if_pos m]
          refine rnext_post t p d w _ _ h0 (by omega) h.1 k fun w => ?_
          rw [e2]; exact radd_ok _ _ w (by omega) (by omega) k.2 m
        · simp only [if_pos h, if_pos k, if_neg l, if_neg m]
          refine rnext_post t p d w _ _ h0 (by omega) h.1 k fun w => ?_
          rw [e2]; exact radd_no _ _ w (by omega) (by omega) (by omega)
    · simp only [if_pos h, if_neg k]; exact rnext_arg t p d w h1 h.1 h.2 k
  · simp only [if_neg h]; exact rnext_hor t p d w h
/-! ### STEP 1: THE WALK: the Go text returns true. 'Grown w w'': the world has at most new blocks (Derived/RowKit3.lean). Part the cases AHEAD of 'go_enter' where a test parts the walk; take each callee by a contract of your own. -/
theorem walk (a0 : Int) (a1 : Int) (a2 : Int) (w0 : (Lit.int .u64 a0).wf = true) (w1 : (Lit.int .u64 a1).wf = true) (w2 : (Lit.int .u64 a2).wf = true) (w : World) :
    Calls Try.prog 4 #[.int .u64 a0, .int .u64 a1, .int .u64 a2] w fun e w' => e = .returned (.bool true) ∧ Grown w w' := by
  have b0 := bounds_u64 w0
  have b1 := bounds_u64 w1
  have b2 := bounds_u64 w2
  go_enter Try.func4, Try.ntmps4
  go_wp2_with (first | (go_at_call 11; refine (awake_any _).mono ?_; rintro e w' ⟨rfl, rfl⟩) | (go_at_call 20; refine (window_v _ _ _ _ (by omega)).mono ?_; rintro e w' ⟨rfl, rfl⟩) | (go_at_call 21; refine (rwindow_v _ _ _ _ (by omega) (by omega)).mono ?_; rintro e w' ⟨rfl, rfl⟩) | (go_at_call 22; refine (next_v _ _ _ _ (by omega)).mono ?_; rintro e w' ⟨rfl, rfl⟩) | (go_at_call 23; refine (rnext_v _ _ _ _ (by omega) (by omega)).mono ?_; rintro e w' ⟨rfl, rfl⟩))
  go_ret
  exact ⟨rfl, Grown.refl _⟩

/-! ### THE ROW's STEP: WRITTEN OUT: LEAVE IT -/
set_option maxRecDepth 100000 in
theorem lifted (os : Os) (started : os.Started) (H : Type) (enc : TypeId × Value → H) :
    ReturnsInHanded {} Try.checked os 4 .any (Rows.tickWindowsSpec.pre6 enc Try.prog Try.f4 Rows.tickWindowsRow.domain false) (Rows.tickWindowsSpec.post enc Try.prog Try.f4 false true false false) := by
  refine returnsInHanded_of_change (C := Try.checked) own started (by kernel_rfl) Try.func4
    (ChangeSpec.witness6 (enc := enc) (C := Try.checked) false ⟨#[], #[.int .u64 0, .int .u64 0, .int .u64 0], []⟩ 8 (by kernel_rfl) (by kernel_rfl) (by kernel_rfl) (by kernel_rfl)) ?_
  intro W base args ds gs before hval0 hW hcnd _
  have hval : ∀ (j : Nat) t v, Try.f4.params[j]? = some t → args[j]? = some v → Value.okWide Try.prog W .any base t v := hval0
  have hW' := hW
  obtain ⟨p, q, hA0, hV, rfl, hfz, hnd⟩ := hW
  have hA : DataW.TrodAll enc Try.prog W 0 (fun _ => true) true Try.f4.params.toList args.toList ds p := hA0
  rw [Try.params4] at hA hval
  obtain ⟨v0, vs0, d0, ds0, p0, q0, hargs, rfl, rfl, h0, r0⟩ := trodAll_cons hA
  obtain ⟨v1, vs1, d1, ds1, p1, q1, rfl, rfl, rfl, h1, r1⟩ := trodAll_cons r0
  obtain ⟨v2, vs2, d2, ds2, p2, q2, rfl, rfl, rfl, h2, r2⟩ := trodAll_cons r1
  obtain ⟨rfl, rfl, rfl⟩ := trodAll_nil r2
  obtain rfl : args = #[v0, v1, v2] := by cases args; simp_all
  obtain ⟨rfl, rfl⟩ := trodVars_none hV
  obtain ⟨a0, rfl, rfl, rfl, w0⟩ := open_int Try.underlying22 (hval 0 22 v0 rfl rfl) h0
  obtain ⟨a1, rfl, rfl, rfl, w1⟩ := open_int Try.underlying22 (hval 1 22 v1 rfl rfl) h1
  obtain ⟨a2, rfl, rfl, rfl, w2⟩ := open_int Try.underlying22 (hval 2 22 v2 rfl rfl) h2
  clear hA0 hval0
  simp only [List.append_nil] at hW'
  refine (walk a0 a1 a2 w0 w1 w2 W).mono fun e W' ⟨he, hg⟩ => ?_
  subst he
  exact ⟨_, rfl, post_of_same (pa := []) (pv := []) hW' (fun _ _ _ => (trodAll_cons_mk (shut_bool Try.underlying4 _) trodAll_mk0)) (fun sp _ => (trodAll_cons_mk (shut_int Try.underlying22 w0) (trodAll_cons_mk (shut_int Try.underlying22 w1) (trodAll_cons_mk (shut_int Try.underlying22 w2) trodAll_mk0)))) (fun _ _ => rfl) rfl
    (hg.frame _) hg.2.1 (ok_one (by kernel_rfl) rfl (okWide_bool_mk Try.underlying4 _))⟩

theorem over : Rows.tickWindowsRow.holds Try.pinned (OpenSpec.ofChange Rows.tickWindowsSpec) :=
  OpenClaim.holds_of_wide 4 Try.f4 rfl rfl rfl rfl rfl rfl rfl ⟨rfl, rfl, rfl, rfl, rfl⟩ rfl rfl rfl rfl rfl (by kernel_rfl) Try.func4 (by kernel_rfl)
    (of_decide_eq_true (by kernel_rfl)) (by unfold Func.isWrapper; first | (rw [if_pos (by decide +kernel)]; kernel_rfl) | (rw [if_neg (by decide +kernel)]; exact ⟨rfl, rfl⟩))
    (fun os started H enc _ => lifted os started H enc)

/-- ████ THE STATEMENT ████ -/
theorem proved : Rows.TickWindowsSaid :=
  over
#print axioms proved
end Go.Proofs.Ytbhkghlgchoglaa.tickWindows
