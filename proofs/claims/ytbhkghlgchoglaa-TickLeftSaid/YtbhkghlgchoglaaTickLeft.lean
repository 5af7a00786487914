/-
  For every two unsigned 64-bit numbers TickLeft answers true, and changes nothing: what is left till a time, added, is that time. No condition.
-/
import Derived.Test.YtbhkghlgchoglaaRows
import Derived.WalkKit
import Derived.ProofKit
import Derived.OpenShut
import Derived.Test.YtbhkghlgchoglaaTickAw
import Derived.Test.YtbhkghlgchoglaaTickV
namespace Go.Proofs.Ytbhkghlgchoglaa.tickLeft
open Go.ChangeShapes Go.WideShapes Go.ChangeAt Go.RowKit
set_option linter.unusedVariables false      -- a walk need not use every 'w<i>' (that an integer argument fits its kind)

theorem own : ownKnob Try.prog.godebug = none := by kernel_rfl

theorem left_g (t u x : Int) (w : World) (h0 : 0 ≤ t) (h1 : u ≤ 18446744073709551615) (hx : leftV t u = x) : Calls Try.prog 16 #[.int .u64 t, .int .u64 u] w fun e w' => e = .returned (.int .u64 x) ∧ w = w' := by
  subst hx; exact left_v t u w h0 h1
theorem walk_lt (a0 a1 : Int) (w : World) (b0 : 0 ≤ a0 ∧ a0 ≤ 18446744073709551615) (b1 : 0 ≤ a1 ∧ a1 ≤ 18446744073709551615) (h : a0 < a1) (k : a1 < 4611686018427387904) :
    Calls Try.prog 8 #[.int .u64 a0, .int .u64 a1] w fun e w' => e = .returned (.bool true) ∧ Grown w w' := by
  have N1 := Lib.hid (show leftV a0 a1 = a1 - a0 from if_neg (by omega))
  have N2 := Lib.hid (show leftV a1 a0 = 0 from if_pos (by omega))
  have z1 : (a0 == a1) = false := beq_eq_false_iff_ne.2 (by omega)
  have z2 : (a0 != a1) = true := bne_iff_ne.2 (by omega)
  have z3 : (a1 - a0 == 0) = false := beq_eq_false_iff_ne.2 (by omega)
  have d0 : decide (a0 < 4611686018427387904) = true := decide_eq_true (by omega)
  have d1 : decide (a1 < 4611686018427387904) = true := decide_eq_true (by omega)
  have e1 : a0 + (a1 - a0) = a1 := by omega
  go_enter Try.func8, Try.ntmps8
  go_wp2_with (first | (go_at_call 11; refine (awake_any _).mono ?_; rintro e w' ⟨rfl, rfl⟩) | (go_at_call 16; ((with_reducible refine (left_g a0 a1 (a1 - a0) _ (by omega) (by omega) N1.out).mono ?_); rintro e w' ⟨rfl, rfl⟩)) | (go_at_call 16; ((with_reducible refine (left_g a1 a0 0 _ (by omega) (by omega) N2.out).mono ?_); rintro e w' ⟨rfl, rfl⟩)) | (go_at_call 14; refine (may_any _ _).mono ?_; rintro e w' ⟨rfl, rfl⟩) | (go_at_call 12; ((with_reducible refine (add_ok a0 ((a1 - a0)) _ (by omega) (by omega) (by omega) (by omega)).mono ?_); rintro e w' ⟨rfl, rfl⟩)) | (go_at_call 12; ((with_reducible refine (add_ok a1 (0) _ (by omega) (by omega) (by omega) (by omega)).mono ?_); rintro e w' ⟨rfl, rfl⟩)) | go_in)
  all_goals go_ret
  all_goals exact ⟨rfl, Grown.refl _⟩
theorem walk_gt (a0 a1 : Int) (w : World) (b0 : 0 ≤ a0 ∧ a0 ≤ 18446744073709551615) (b1 : 0 ≤ a1 ∧ a1 ≤ 18446744073709551615) (h : a1 < a0) (k : a0 < 4611686018427387904) :
    Calls Try.prog 8 #[.int .u64 a0, .int .u64 a1] w fun e w' => e = .returned (.bool true) ∧ Grown w w' := by
  have N1 := Lib.hid (show leftV a0 a1 = 0 from if_pos (by omega))
  have N2 := Lib.hid (show leftV a1 a0 = a0 - a1 from if_neg (by omega))
  have z1 : (a0 == a1) = false := beq_eq_false_iff_ne.2 (by omega)
  have z2 : (a0 != a1) = true := bne_iff_ne.2 (by omega)
  have z3 : (a0 - a1 == 0) = false := beq_eq_false_iff_ne.2 (by omega)
  have d0 : decide (a0 < 4611686018427387904) = true := decide_eq_true (by omega)
  have d1 : decide (a1 < 4611686018427387904) = true := decide_eq_true (by omega)
  have e1 : a1 + (a0 - a1) = a0 := by omega
  go_enter Try.func8, Try.ntmps8
  go_wp2_with (first | (go_at_call 11; refine (awake_any _).mono ?_; rintro e w' ⟨rfl, rfl⟩) | (go_at_call 16; ((with_reducible refine (left_g a0 a1 0 _ (by omega) (by omega) N1.out).mono ?_); rintro e w' ⟨rfl, rfl⟩)) | (go_at_call 16; ((with_reducible refine (left_g a1 a0 (a0 - a1) _ (by omega) (by omega) N2.out).mono ?_); rintro e w' ⟨rfl, rfl⟩)) | (go_at_call 14; refine (may_any _ _).mono ?_; rintro e w' ⟨rfl, rfl⟩) | (go_at_call 12; ((with_reducible refine (add_ok a0 (0) _ (by omega) (by omega) (by omega) (by omega)).mono ?_); rintro e w' ⟨rfl, rfl⟩)) | (go_at_call 12; ((with_reducible refine (add_ok a1 ((a0 - a1)) _ (by omega) (by omega) (by omega) (by omega)).mono ?_); rintro e w' ⟨rfl, rfl⟩)) | go_in)
  all_goals go_ret
  all_goals exact ⟨rfl, Grown.refl _⟩
theorem walk_eq (a0 a1 : Int) (w : World) (b0 : 0 ≤ a0 ∧ a0 ≤ 18446744073709551615) (b1 : 0 ≤ a1 ∧ a1 ≤ 18446744073709551615) (h : a1 = a0) (k : a0 < 4611686018427387904) :
    Calls Try.prog 8 #[.int .u64 a0, .int .u64 a1] w fun e w' => e = .returned (.bool true) ∧ Grown w w' := by
  obtain rfl : a1 = a0 := h
  have N1 := Lib.hid (show leftV a1 a1 = 0 from if_pos (by omega))
  have N2 := Lib.hid (show leftV a1 a1 = 0 from if_pos (by omega))
  have d1 : decide (a1 < 4611686018427387904) = true := decide_eq_true (by omega)
  go_enter Try.func8, Try.ntmps8
  go_wp2_with (first | (go_at_call 11; refine (awake_any _).mono ?_; rintro e w' ⟨rfl, rfl⟩) | (go_at_call 16; ((with_reducible refine (left_g a1 a1 0 _ (by omega) (by omega) N1.out).mono ?_); rintro e w' ⟨rfl, rfl⟩)) | (go_at_call 16; ((with_reducible refine (left_g a1 a1 0 _ (by omega) (by omega) N2.out).mono ?_); rintro e w' ⟨rfl, rfl⟩)) | (go_at_call 14; refine (may_any _ _).mono ?_; rintro e w' ⟨rfl, rfl⟩) | (go_at_call 12; ((with_reducible refine (add_ok a1 (0) _ (by omega) (by omega) (by omega) (by omega)).mono ?_); rintro e w' ⟨rfl, rfl⟩)) | (go_at_call 12; ((with_reducible refine (add_ok a1 (0) _ (by omega) (by omega) (by omega) (by omega)).mono ?_); rintro e w' ⟨rfl, rfl⟩)) | go_in)
  all_goals go_ret
  all_goals exact ⟨rfl, Grown.refl _⟩
theorem walk_ltn (a0 a1 : Int) (w : World) (b0 : 0 ≤ a0 ∧ a0 ≤ 18446744073709551615) (b1 : 0 ≤ a1 ∧ a1 ≤ 18446744073709551615) (h : a0 < a1) (k : ¬ a1 < 4611686018427387904) :
    Calls Try.prog 8 #[.int .u64 a0, .int .u64 a1] w fun e w' => e = .returned (.bool true) ∧ Grown w w' := by
  have N1 := Lib.hid (show leftV a0 a1 = a1 - a0 from if_neg (by omega))
  have N2 := Lib.hid (show leftV a1 a0 = 0 from if_pos (by omega))
  have z1 : (a0 == a1) = false := beq_eq_false_iff_ne.2 (by omega)
  have z2 : (a0 != a1) = true := bne_iff_ne.2 (by omega)
  have z3 : (a1 - a0 == 0) = false := beq_eq_false_iff_ne.2 (by omega)
  have d1 : decide (a1 < 4611686018427387904) = false := decide_eq_false (by omega)
  go_enter Try.func8, Try.ntmps8
  go_wp2_with (first | (go_at_call 11; refine (awake_any _).mono ?_; rintro e w' ⟨rfl, rfl⟩) | (go_at_call 16; ((with_reducible refine (left_g a0 a1 (a1 - a0) _ (by omega) (by omega) N1.out).mono ?_); rintro e w' ⟨rfl, rfl⟩)) | (go_at_call 16; ((with_reducible refine (left_g a1 a0 0 _ (by omega) (by omega) N2.out).mono ?_); rintro e w' ⟨rfl, rfl⟩)) | (go_at_call 14; refine (may_any _ _).mono ?_; rintro e w' ⟨rfl, rfl⟩) | go_in)
  all_goals go_ret
  all_goals exact ⟨rfl, Grown.refl _⟩
theorem walk_gtn (a0 a1 : Int) (w : World) (b0 : 0 ≤ a0 ∧ a0 ≤ 18446744073709551615) (b1 : 0 ≤ a1 ∧ a1 ≤ 18446744073709551615) (h : a1 < a0) (k : ¬ a0 < 4611686018427387904) :
    Calls Try.prog 8 #[.int .u64 a0, .int .u64 a1] w fun e w' => e = .returned (.bool true) ∧ Grown w w' := by
  have N1 := Lib.hid (show leftV a0 a1 = 0 from if_pos (by omega))
  have N2 := Lib.hid (show leftV a1 a0 = a0 - a1 from if_neg (by omega))
  have z1 : (a0 == a1) = false := beq_eq_false_iff_ne.2 (by omega)
  have z2 : (a0 != a1) = true := bne_iff_ne.2 (by omega)
  have z3 : (a0 - a1 == 0) = false := beq_eq_false_iff_ne.2 (by omega)
  have d1 : decide (a0 < 4611686018427387904) = false := decide_eq_false (by omega)
  go_enter Try.func8, Try.ntmps8
  go_wp2_with (first | (go_at_call 11; refine (awake_any _).mono ?_; rintro e w' ⟨rfl, rfl⟩) | (go_at_call 16; ((with_reducible refine (left_g a0 a1 0 _ (by omega) (by omega) N1.out).mono ?_); rintro e w' ⟨rfl, rfl⟩)) | (go_at_call 16; ((with_reducible refine (left_g a1 a0 (a0 - a1) _ (by omega) (by omega) N2.out).mono ?_); rintro e w' ⟨rfl, rfl⟩)) | (go_at_call 14; refine (may_any _ _).mono ?_; rintro e w' ⟨rfl, rfl⟩) | go_in)
  all_goals go_ret
  all_goals exact ⟨rfl, Grown.refl _⟩
theorem walk_eqn (a0 a1 : Int) (w : World) (b0 : 0 ≤ a0 ∧ a0 ≤ 18446744073709551615) (b1 : 0 ≤ a1 ∧ a1 ≤ 18446744073709551615) (h : a1 = a0) (k : ¬ a0 < 4611686018427387904) :
    Calls Try.prog 8 #[.int .u64 a0, .int .u64 a1] w fun e w' => e = .returned (.bool true) ∧ Grown w w' := by
  obtain rfl : a1 = a0 := h
  have N1 := Lib.hid (show leftV a1 a1 = 0 from if_pos (by omega))
  have N2 := Lib.hid (show leftV a1 a1 = 0 from if_pos (by omega))
  have d1 : decide (a1 < 4611686018427387904) = false := decide_eq_false (by omega)
  go_enter Try.func8, Try.ntmps8
  go_wp2_with (first | (go_at_call 11; refine (awake_any _).mono ?_; rintro e w' ⟨rfl, rfl⟩) | (go_at_call 16; ((with_reducible refine (left_g a1 a1 0 _ (by omega) (by omega) N1.out).mono ?_); rintro e w' ⟨rfl, rfl⟩)) | (go_at_call 16; ((with_reducible refine (left_g a1 a1 0 _ (by omega) (by omega) N2.out).mono ?_); rintro e w' ⟨rfl, rfl⟩)) | (go_at_call 14; refine (may_any _ _).mono ?_; rintro e w' ⟨rfl, rfl⟩) | go_in)
  all_goals go_ret
  all_goals exact ⟨rfl, Grown.refl _⟩
/-! ### STEP 1: THE WALK: the Go text returns true. 'Grown w w'': the world has at most new blocks (Derived/RowKit3.lean). Part the cases AHEAD of 'go_enter' where a test parts the walk; take each callee by a contract of your own. -/
theorem walk (a0 : Int) (a1 : Int) (w0 : (Lit.int .u64 a0).wf = true) (w1 : (Lit.int .u64 a1).wf = true) (w : World) :
    Calls Try.prog 8 #[.int .u64 a0, .int .u64 a1] w fun e w' => e = .returned (.bool true) ∧ Grown w w' := by
  have b0 := bounds_u64 w0
  have b1 := bounds_u64 w1
  by_cases h : a0 < a1
  · by_cases k : a1 < 4611686018427387904
    · exact walk_lt a0 a1 w b0 b1 h k
    · exact walk_ltn a0 a1 w b0 b1 h k
  · by_cases h2 : a1 < a0
    · by_cases k : a0 < 4611686018427387904
      · exact walk_gt a0 a1 w b0 b1 h2 k
      · exact walk_gtn a0 a1 w b0 b1 h2 k
    · by_cases k : a0 < 4611686018427387904
      · exact walk_eq a0 a1 w b0 b1 (by omega) k
      · exact walk_eqn a0 a1 w b0 b1 (by omega) k

/-! ### THE ROW's STEP: WRITTEN OUT: LEAVE IT -/
set_option maxRecDepth 100000 in
theorem lifted (os : Os) (started : os.Started) (H : Type) (enc : TypeId × Value → H) :
    ReturnsInHanded {} Try.checked os 8 .any (Rows.tickLeftSpec.pre6 enc Try.prog Try.f8 Rows.tickLeftRow.domain false) (Rows.tickLeftSpec.post enc Try.prog Try.f8 false true false false) := by
  refine returnsInHanded_of_change (C := Try.checked) own started (by kernel_rfl) Try.func8
    (ChangeSpec.witness6 (enc := enc) (C := Try.checked) false ⟨#[], #[.int .u64 0, .int .u64 0], []⟩ 8 (by kernel_rfl) (by kernel_rfl) (by kernel_rfl) (by kernel_rfl)) ?_
  intro W base args ds gs before hval0 hW hcnd _
  have hval : ∀ (j : Nat) t v, Try.f8.params[j]? = some t → args[j]? = some v → Value.okWide Try.prog W .any base t v := hval0
  have hW' := hW
  obtain ⟨p, q, hA0, hV, rfl, hfz, hnd⟩ := hW
  have hA : DataW.TrodAll enc Try.prog W 0 (fun _ => true) true Try.f8.params.toList args.toList ds p := hA0
  rw [Try.params8] at hA hval
  obtain ⟨v0, vs0, d0, ds0, p0, q0, hargs, rfl, rfl, h0, r0⟩ := trodAll_cons hA
  obtain ⟨v1, vs1, d1, ds1, p1, q1, rfl, rfl, rfl, h1, r1⟩ := trodAll_cons r0
  obtain ⟨rfl, rfl, rfl⟩ := trodAll_nil r1
  obtain rfl : args = #[v0, v1] := by cases args; simp_all
  obtain ⟨rfl, rfl⟩ := trodVars_none hV
  obtain ⟨a0, rfl, rfl, rfl, w0⟩ := open_int Try.underlying22 (hval 0 22 v0 rfl rfl) h0
  obtain ⟨a1, rfl, rfl, rfl, w1⟩ := open_int Try.underlying22 (hval 1 22 v1 rfl rfl) h1
  clear hA0 hval0
  simp only [List.append_nil] at hW'
  refine (walk a0 a1 w0 w1 W).mono fun e W' ⟨he, hg⟩ => ?_
  subst he
  exact ⟨_, rfl, post_of_same (pa := []) (pv := []) hW' (fun _ _ _ => (trodAll_cons_mk (shut_bool Try.underlying4 _) trodAll_mk0)) (fun sp _ => (trodAll_cons_mk (shut_int Try.underlying22 w0) (trodAll_cons_mk (shut_int Try.underlying22 w1) trodAll_mk0))) (fun _ _ => rfl) rfl
    (hg.frame _) hg.2.1 (ok_one (by kernel_rfl) rfl (okWide_bool_mk Try.underlying4 _))⟩

theorem over : Rows.tickLeftRow.holds Try.pinned (OpenSpec.ofChange Rows.tickLeftSpec) :=
  OpenClaim.holds_of_wide 8 Try.f8 rfl rfl rfl rfl rfl rfl rfl ⟨rfl, rfl, rfl, rfl, rfl⟩ rfl rfl rfl rfl rfl (by kernel_rfl) Try.func8 (by kernel_rfl)
    (of_decide_eq_true (by kernel_rfl)) (by unfold Func.isWrapper; first | (rw [if_pos (by decide +kernel)]; kernel_rfl) | (rw [if_neg (by decide +kernel)]; exact ⟨rfl, rfl⟩))
    (fun os started H enc _ => lifted os started H enc)

/-- ████ THE STATEMENT ████ -/
theorem proved : Rows.TickLeftSaid :=
  over
#print axioms proved
end Go.Proofs.Ytbhkghlgchoglaa.tickLeft
