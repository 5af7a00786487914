/-
  For every two unsigned 64-bit numbers CoalTimes answers true, and changes nothing: a time that is none, or goes back, is refused, and nothing is done by it. No condition.
-/
import Derived.Test.YtfidjjeignljjaaRows
import Derived.Test.YtfidjjeignljjaaFr
import Derived.Test.YtfidjjeignljjaaCoalL
namespace Go.Proofs.Ytfidjjeignljjaa.coalTimes
open Go.ChangeShapes Go.WideShapes Go.ChangeAt Go.RowKit
set_option linter.unusedVariables false
theorem own : ownKnob Try.prog.godebug = none := by kernel_rfl
theorem laid : laidOutB Try.prog = true := by kernel_rfl
set_option maxRecDepth 100000
theorem walk (x y : Int) (w : World) (bx : 0 ≤ x ∧ x ≤ 18446744073709551615) (bY : 0 ≤ y ∧ y ≤ 18446744073709551615) :
    Calls Try.prog 7 #[.int .u64 x, .int .u64 y] w fun r w' => r = .returned (.bool true) ∧ Below w.heap.size w w' := by
  by_cases hx : x < 4611686018427387904
  · go_enter Try.func7, Try.ntmps7
    go_wp2_with fail
    refine (awake_any _).mono ?_
    rintro r w1 ⟨rfl, hw⟩
    go_wp2_with fail
    refine (new_ok 5 10 _ (by omega)).mono ?_
    rintro r w2 ⟨rfl, hb, hz, hn⟩
    have hB : w.heap.size ≤ w1.heap.size := hw.size
    have hw2 := hw.trans (hn.mono hB)
    go_wp2_with fail
    refine (raise_not _ 5 10 0 0 0 x _ hb ⟨by omega, by omega, by omega, by omega, by omega, by omega, by omega, by omega, by omega⟩ (by omega) hx (by omega) (Or.inl rfl)).mono ?_
    rintro r w3 ⟨rfl, hb3, ho3⟩
    rw [show rK 5 10 0 = 1 by decide, show rF 0 0 x = x from if_pos rfl] at hb3
    have hw3 := below_only hw2 ho3 hB (Nat.le_refl _)
    have dx : decide (4611686018427387904 ≤ x) = false := decide_eq_false (by omega)
    go_wp2_with fail
    by_cases hf : x + 10 < 4611686018427387904
    · refine (due_some _ 5 10 x 1 x _ hb3 (by omega) (by omega) (by omega) (by omega) (by omega)).mono ?_
      rintro r w4 ⟨rfl, hb4, ho4⟩
      have hw4 := below_only hw3 ho4 hB (Nat.le_refl _)
      have df : decide (x + 10 < 4611686018427387904) = true := decide_eq_true hf
      by_cases hy : y < 4611686018427387904
      · have dy : decide (4611686018427387904 ≤ y) = false := decide_eq_false (by omega)
        by_cases hyx : y < x
        · have dyx : decide (y < x) = true := decide_eq_true hyx
          go_wp2_with fail
          refine (raise_arg _ 5 10 x 1 x y _ hb4 hy hyx).mono ?_
          rintro r w5 ⟨rfl, hb5, ho5⟩
          go_wp2_with (go_at_call 17; refine (has_any _ _ _ _ _ _ _ hb5).mono ?_; rintro r w' ⟨rfl, rfl⟩)
          go_ret
          exact ⟨rfl, below_only hw4 ho5 hB (Nat.le_refl _)⟩
        · have dyx : decide (y < x) = false := decide_eq_false hyx
          by_cases hdue : x + 10 ≤ y
          · have dd : decide (x + 10 ≤ y) = true := decide_eq_true hdue
            go_wp2_with fail
            refine (raise_due _ 5 10 x 1 x y _ hb4 ⟨by omega, by omega, by omega, by omega, by omega, by omega, by omega, by omega, by omega⟩ (by omega) hy (by omega) hdue).mono ?_
            rintro r w5 ⟨rfl, hb5, ho5⟩
            rw [show rK 5 10 0 = 1 by decide] at hb5
            rw [show (1 : Int) + rR 5 10 0 = 1 by decide]
            go_wp2_with (go_at_call 17; refine (has_any _ _ _ _ _ _ _ hb5).mono ?_; rintro r w' ⟨rfl, rfl⟩)
            go_ret
            exact ⟨rfl, below_only hw4 ho5 hB (Nat.le_refl _)⟩
          · have dd : decide (x + 10 ≤ y) = false := decide_eq_false hdue
            go_wp2_with fail
            refine (raise_not _ 5 10 x 1 x y _ hb4 ⟨by omega, by omega, by omega, by omega, by omega, by omega, by omega, by omega, by omega⟩ (by omega) hy (by omega) (Or.inr (by omega))).mono ?_
            rintro r w5 ⟨rfl, hb5, ho5⟩
            rw [show rK 5 10 1 = 2 by decide] at hb5
            rw [show rR 5 10 1 = 0 by decide]
            go_wp2_with (go_at_call 17; refine (has_any _ _ _ _ _ _ _ hb5).mono ?_; rintro r w' ⟨rfl, rfl⟩)
            go_ret
            exact ⟨rfl, below_only hw4 ho5 hB (Nat.le_refl _)⟩
      · have dy : decide (4611686018427387904 ≤ y) = true := decide_eq_true (by omega)
        go_wp2_with fail
        refine (raise_hor _ 5 10 x 1 x y _ hb4 (by omega)).mono ?_
        rintro r w5 ⟨rfl, hb5, ho5⟩
        go_wp2_with (go_at_call 17; refine (has_any _ _ _ _ _ _ _ hb5).mono ?_; rintro r w' ⟨rfl, rfl⟩)
        go_ret
        exact ⟨rfl, below_only hw4 ho5 hB (Nat.le_refl _)⟩
    · refine (due_far _ 5 10 x 1 x _ hb3 (by omega) (by omega) (by omega) (by omega) (by omega)).mono ?_
      rintro r w4 ⟨rfl, hb4, ho4⟩
      have hw4 := below_only hw3 ho4 hB (Nat.le_refl _)
      have df : decide (x + 10 < 4611686018427387904) = false := decide_eq_false hf
      by_cases hy : y < 4611686018427387904
      · have dy : decide (4611686018427387904 ≤ y) = false := decide_eq_false (by omega)
        by_cases hyx : y < x
        · have dyx : decide (y < x) = true := decide_eq_true hyx
          go_wp2_with fail
          refine (raise_arg _ 5 10 x 1 x y _ hb4 hy hyx).mono ?_
          rintro r w5 ⟨rfl, hb5, ho5⟩
          go_wp2_with (go_at_call 17; refine (has_any _ _ _ _ _ _ _ hb5).mono ?_; rintro r w' ⟨rfl, rfl⟩)
          go_ret
          exact ⟨rfl, below_only hw4 ho5 hB (Nat.le_refl _)⟩
        · have dyx : decide (y < x) = false := decide_eq_false hyx
          go_wp2_with fail
          refine (raise_not _ 5 10 x 1 x y _ hb4 ⟨by omega, by omega, by omega, by omega, by omega, by omega, by omega, by omega, by omega⟩ (by omega) hy (by omega) (Or.inr (by omega))).mono ?_
          rintro r w5 ⟨rfl, hb5, ho5⟩
          rw [show rK 5 10 1 = 2 by decide] at hb5
          rw [show rR 5 10 1 = 0 by decide]
          go_wp2_with (go_at_call 17; refine (has_any _ _ _ _ _ _ _ hb5).mono ?_; rintro r w' ⟨rfl, rfl⟩)
          go_ret
          exact ⟨rfl, below_only hw4 ho5 hB (Nat.le_refl _)⟩
      · have dy : decide (4611686018427387904 ≤ y) = true := decide_eq_true (by omega)
        go_wp2_with fail
        refine (raise_hor _ 5 10 x 1 x y _ hb4 (by omega)).mono ?_
        rintro r w5 ⟨rfl, hb5, ho5⟩
        go_wp2_with (go_at_call 17; refine (has_any _ _ _ _ _ _ _ hb5).mono ?_; rintro r w' ⟨rfl, rfl⟩)
        go_ret
        exact ⟨rfl, below_only hw4 ho5 hB (Nat.le_refl _)⟩
  · have dx : decide (4611686018427387904 ≤ x) = true := decide_eq_true (by omega)
    go_enter Try.func7, Try.ntmps7
    go_wp2_with fail
    refine (awake_any _).mono ?_
    rintro r w1 ⟨rfl, hw⟩
    go_wp2_with fail
    refine (new_ok 5 10 _ (by omega)).mono ?_
    rintro r w2 ⟨rfl, hb, hz, hn⟩
    have hB : w.heap.size ≤ w1.heap.size := hw.size
    have hw2 := hw.trans (hn.mono hB)
    go_wp2_with fail
    refine (raise_hor _ 5 10 0 0 0 x _ hb (by omega)).mono ?_
    rintro r w3 ⟨rfl, hb3, ho3⟩
    go_wp2_with (go_at_call 17; refine (has_any _ _ _ _ _ _ _ hb3).mono ?_; rintro r w' ⟨rfl, rfl⟩)
    go_ret
    exact ⟨rfl, below_only hw2 ho3 hB (Nat.le_refl _)⟩

set_option maxRecDepth 100000 in
theorem lifted (os : Os) (started : os.Started) (H : Type) (enc : TypeId × Value → H) :
    ReturnsInHanded {} Try.checked os 7 .any (Rows.coalTimesSpec.pre6 enc Try.prog Try.f7 Rows.coalTimesRow.domain false) (Rows.coalTimesSpec.post enc Try.prog Try.f7 false true false false) := by
  refine law_lifted (C := Try.checked) (tb := 4) own started (by kernel_rfl) Try.func7
    (ChangeSpec.witness6 (enc := enc) (C := Try.checked) false ⟨#[], #[.int .u64 0, .int .u64 0], []⟩ 8 (by kernel_rfl) (by kernel_rfl) (by kernel_rfl) (by kernel_rfl)) laid (by kernel_rfl) (by kernel_rfl) Try.underlying4 rfl ?_
  intro W base args ds ps hval0 hA0 hlt
  have hval : ∀ (j : Nat) t v, Try.f7.params[j]? = some t → args[j]? = some v → Value.okWide Try.prog W .any base t v := hval0
  have hA : DataW.TrodAll enc Try.prog W 0 (fun _ => true) true Try.f7.params.toList args.toList ds ps := hA0
  clear hA0 hval0
  rw [Try.params7] at hA hval
  obtain ⟨v0, vs0, d0, ds0, p0, q0, hargs, rfl, rfl, h0, r0⟩ := trodAll_cons hA
  obtain ⟨v1, vs1, d1, ds1, p1, q1, rfl, rfl, rfl, h1, r1⟩ := trodAll_cons r0
  obtain ⟨rfl, rfl, rfl⟩ := trodAll_nil r1
  obtain rfl : args = #[v0, v1] := by cases args; simp_all
  obtain ⟨a0, rfl, rfl, rfl, w0⟩ := open_int Try.underlying22 (hval 0 22 v0 rfl rfl) h0
  obtain ⟨a1, rfl, rfl, rfl, w1⟩ := open_int Try.underlying22 (hval 1 22 v1 rfl rfl) h1
  refine ⟨⟨rfl, rfl, rfl⟩, ?_⟩
  have b0 := bounds_u64 w0
  have b1 := bounds_u64 w1
  exact walk a0 a1 W b0 b1

theorem over : Rows.coalTimesRow.holds Try.pinned (OpenSpec.ofChange Rows.coalTimesSpec) :=
  OpenClaim.holds_of_wide 7 Try.f7 rfl rfl rfl rfl rfl rfl rfl ⟨rfl, rfl, rfl, rfl, rfl⟩ rfl rfl rfl rfl rfl (by kernel_rfl) Try.func7 (by kernel_rfl)
    (of_decide_eq_true (by kernel_rfl)) (by unfold Func.isWrapper; first | (rw [if_pos (by decide +kernel)]; kernel_rfl) | (rw [if_neg (by decide +kernel)]; exact ⟨rfl, rfl⟩))
    (fun os started H enc _ => lifted os started H enc)
theorem proved : Rows.CoalTimesSaid := over
#print axioms proved
end Go.Proofs.Ytfidjjeignljjaa.coalTimes
