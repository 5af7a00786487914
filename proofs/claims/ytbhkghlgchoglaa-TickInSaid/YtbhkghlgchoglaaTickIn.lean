/-
  For every three unsigned 64-bit numbers TickIn answers true, and changes nothing: a time is in its window, and the next one begins a period later. No condition.
-/
import Derived.Test.YtbhkghlgchoglaaRows
import Derived.WalkKit
import Derived.ProofKit
import Derived.OpenShut
import Derived.Test.YtbhkghlgchoglaaTickAw
import Derived.Test.YtbhkghlgchoglaaTickV
namespace Go.Proofs.Ytbhkghlgchoglaa.tickIn
open Go.ChangeShapes Go.WideShapes Go.ChangeAt Go.RowKit
set_option linter.unusedVariables false      -- a walk need not use every 'w<i>' (that an integer argument fits its kind)

theorem own : ownKnob Try.prog.godebug = none := by kernel_rfl

theorem window_at (n k p d : Int) (w : World) (hn : n = p + k * d) (h0 : 0 ≤ p) (hk : 0 ≤ k) (hd : 1 ≤ d ∧ d ≤ 4611686018427387904) (hl : n < 4611686018427387904) : Calls Try.prog 20 #[.int .u64 n, .int .u64 p, .int .u64 d] w fun e w' => e = .returned (.tuple #[.int .u64 k, .int .u64 n, .int .i64 0]) ∧ w = w' := by
  have e : (n - p) / d = k := by rw [hn, show p + k * d - p = k * d by omega, Int.mul_ediv_cancel _ (by omega)]
  have e2 : p + k * d = n := hn.symm
  have hm := Int.mul_nonneg hk (show 0 ≤ d by omega)
  have := window_ok n p d w h0 (by omega) hl hd
  rw [e, e2] at this
  exact this
/-! ### STEP 1: THE WALK: the Go text returns true. 'Grown w w'': the world has at most new blocks (Derived/RowKit3.lean). Part the cases AHEAD of 'go_enter' where a test parts the walk; take each callee by a contract of your own. -/
theorem walk (a0 : Int) (a1 : Int) (a2 : Int) (w0 : (Lit.int .u64 a0).wf = true) (w1 : (Lit.int .u64 a1).wf = true) (w2 : (Lit.int .u64 a2).wf = true) (w : World) :
    Calls Try.prog 5 #[.int .u64 a0, .int .u64 a1, .int .u64 a2] w fun e w' => e = .returned (.bool true) ∧ Grown w w' := by
  have b0 := bounds_u64 w0
  have b1 := bounds_u64 w1
  have b2 := bounds_u64 w2
  by_cases hh : a0 < 4611686018427387904 ∧ a1 < 4611686018427387904
  · by_cases ho : 1 ≤ a2 ∧ a2 ≤ 4611686018427387904 ∧ a1 ≤ a0
    · obtain ⟨m0, m1, m2, m3, m4⟩ := win_le ho.2.2 ho.1
      have Y := Lib.hid fun w => window_ok a0 a1 a2 w (by omega) ho.2.2 hh.1 ⟨ho.1, ho.2.1⟩
      by_cases hl : a1 + (a0 - a1) / a2 * a2 + a2 < 4611686018427387904
      · have X := Lib.hid fun w => next_ok a0 a1 a2 w (by omega) ho.2.2 hh.1 ⟨ho.1, ho.2.1⟩ hl
        have Z := Lib.hid fun w => window_at (a1 + (a0 - a1) / a2 * a2 + a2) ((a0 - a1) / a2 + 1) a1 a2 w (by rw [Int.add_mul]; omega) (by omega) (by omega) ⟨ho.1, ho.2.1⟩ hl
        have L := Lib.hid fun w => left_pos a0 (a1 + (a0 - a1) / a2 * a2 + a2) w (by omega) (by omega) (by omega)
        obtain ⟨g1, g2, g3⟩ := ho
        obtain ⟨g4, g5⟩ := hh
        generalize (a0 - a1) / a2 = k at *
        have d1 : decide (a0 < a1 + k * a2) = false := decide_eq_false (by omega)
        have d2 : decide (a2 ≤ a0 - (a1 + k * a2)) = false := decide_eq_false (by omega)
        have d3 : decide (1 ≤ a1 + k * a2 + a2 - a0) = true := decide_eq_true (by omega)
        have d4 : decide (a1 + k * a2 + a2 - a0 ≤ a2) = true := decide_eq_true (by omega)
        go_enter Try.func5, Try.ntmps5
        go_wp2_with (first | (go_at_call 11; refine (awake_any _).mono ?_; rintro e w' ⟨rfl, rfl⟩) | (go_at_call 20; ((with_reducible refine (Y.out _).mono ?_); rintro e w' ⟨rfl, rfl⟩)) | (go_at_call 20; ((with_reducible refine (Z.out _).mono ?_); rintro e w' ⟨rfl, rfl⟩)) | (go_at_call 22; refine (X.out _).mono ?_; rintro e w' ⟨rfl, rfl⟩) | (go_at_call 16; refine (L.out _).mono ?_; rintro e w' ⟨rfl, rfl⟩))
        go_ret
        exact ⟨rfl, Grown.refl _⟩
      · have X := Lib.hid fun w => next_end a0 a1 a2 w (by omega) ho.2.2 hh.1 ⟨ho.1, ho.2.1⟩ (by omega)
        obtain ⟨g1, g2, g3⟩ := ho
        obtain ⟨g4, g5⟩ := hh
        generalize (a0 - a1) / a2 = k at *
        have d1 : decide (a0 < a1 + k * a2) = false := decide_eq_false (by omega)
        have d2 : decide (a2 ≤ a0 - (a1 + k * a2)) = false := decide_eq_false (by omega)
        have d3 : decide (4611686018427387904 ≤ a1 + k * a2 + a2) = true := decide_eq_true (by omega)
        go_enter Try.func5, Try.ntmps5
        go_wp2_with (first | (go_at_call 11; refine (awake_any _).mono ?_; rintro e w' ⟨rfl, rfl⟩) | (go_at_call 20; ((with_reducible refine (Y.out _).mono ?_); rintro e w' ⟨rfl, rfl⟩)) | (go_at_call 22; refine (X.out _).mono ?_; rintro e w' ⟨rfl, rfl⟩))
        go_ret
        exact ⟨rfl, Grown.refl _⟩
    · have Y := Lib.hid fun w => window_arg a0 a1 a2 w hh.1 hh.2 ho
      clear hh ho
      go_enter Try.func5, Try.ntmps5
      go_wp2_with (first | (go_at_call 11; refine (awake_any _).mono ?_; rintro e w' ⟨rfl, rfl⟩) | (go_at_call 20; refine (Y.out _).mono ?_; rintro e w' ⟨rfl, rfl⟩))
      go_ret
      exact ⟨rfl, Grown.refl _⟩
  · have Y := Lib.hid fun w => window_hor a0 a1 a2 w hh
    clear hh
    go_enter Try.func5, Try.ntmps5
    go_wp2_with (first | (go_at_call 11; refine (awake_any _).mono ?_; rintro e w' ⟨rfl, rfl⟩) | (go_at_call 20; refine (Y.out _).mono ?_; rintro e w' ⟨rfl, rfl⟩))
    go_ret
    exact ⟨rfl, Grown.refl _⟩

/-! ### THE ROW's STEP: WRITTEN OUT: LEAVE IT -/
set_option maxRecDepth 100000 in
theorem lifted (os : Os) (started : os.Started) (H : Type) (enc : TypeId × Value → H) :
    ReturnsInHanded {} Try.checked os 5 .any (Rows.tickInSpec.pre6 enc Try.prog Try.f5 Rows.tickInRow.domain false) (Rows.tickInSpec.post enc Try.prog Try.f5 false true false false) := by
  refine returnsInHanded_of_change (C := Try.checked) own started (by kernel_rfl) Try.func5
    (ChangeSpec.witness6 (enc := enc) (C := Try.checked) false ⟨#[], #[.int .u64 0, .int .u64 0, .int .u64 0], []⟩ 8 (by kernel_rfl) (by kernel_rfl) (by kernel_rfl) (by kernel_rfl)) ?_
  intro W base args ds gs before hval0 hW hcnd _
  have hval : ∀ (j : Nat) t v, Try.f5.params[j]? = some t → args[j]? = some v → Value.okWide Try.prog W .any base t v := hval0
  have hW' := hW
  obtain ⟨p, q, hA0, hV, rfl, hfz, hnd⟩ := hW
  have hA : DataW.TrodAll enc Try.prog W 0 (fun _ => true) true Try.f5.params.toList args.toList ds p := hA0
  rw [Try.params5] at hA hval
  obtain ⟨v0, vs0, d0, ds0, p0, q0, hargs, rfl, rfl, h0, r0⟩ := trodAll_cons hA
  obtain ⟨v1, vs1, d1, ds1, p1, q1, rfl, rfl, rfl, h1, r1⟩ := trodAll_cons r0
  obtain ⟨v2, vs2, d2, ds2, p2, q2, rfl, rfl, rfl, h2, r2⟩ := trodAll_cons r1
  obtain ⟨rfl, rfl, rfl⟩ := trodAll_nil r2
  obtain rfl : args = #[v0, v1, v2] := by cases args; simp_all
  obtain ⟨rfl, rfl⟩ := trodVars_none hV
  obtain ⟨a0, rfl, rfl, rfl, w0⟩ := open_int Try.underlying22 (hval 0 22 v0 rfl rfl) h0
  obtain ⟨a1, rfl, rfl, rfl, w1⟩ := open_int Try.underlying22 (hval 1 22 v1 rfl rfl) h1
  obtain ⟨a2, rfl, rfl, rfl, w2⟩ := open_int Try.underlying22 (hval 2 22 v2 rfl rfl) h2
  clear hA0 hval0
  simp only [List.append_nil] at hW'
  refine (walk a0 a1 a2 w0 w1 w2 W).mono fun e W' ⟨he, hg⟩ => ?_
  subst he
  exact ⟨_, rfl, post_of_same (pa := []) (pv := []) hW' (fun _ _ _ => (trodAll_cons_mk (shut_bool Try.underlying4 _) trodAll_mk0)) (fun sp _ => (trodAll_cons_mk (shut_int Try.underlying22 w0) (trodAll_cons_mk (shut_int Try.underlying22 w1) (trodAll_cons_mk (shut_int Try.underlying22 w2) trodAll_mk0)))) (fun _ _ => rfl) rfl
    (hg.frame _) hg.2.1 (ok_one (by kernel_rfl) rfl (okWide_bool_mk Try.underlying4 _))⟩

theorem over : Rows.tickInRow.holds Try.pinned (OpenSpec.ofChange Rows.tickInSpec) :=
  OpenClaim.holds_of_wide 5 Try.f5 rfl rfl rfl rfl rfl rfl rfl ⟨rfl, rfl, rfl, rfl, rfl⟩ rfl rfl rfl rfl rfl (by kernel_rfl) Try.func5 (by kernel_rfl)
    (of_decide_eq_true (by kernel_rfl)) (by unfold Func.isWrapper; first | (rw [if_pos (by decide +kernel)]; kernel_rfl) | (rw [if_neg (by decide +kernel)]; exact ⟨rfl, rfl⟩))
    (fun os started H enc _ => lifted os started H enc)

/-- ████ THE STATEMENT ████ -/
theorem proved : Rows.TickInSaid :=
  over
#print axioms proved
end Go.Proofs.Ytbhkghlgchoglaa.tickIn
