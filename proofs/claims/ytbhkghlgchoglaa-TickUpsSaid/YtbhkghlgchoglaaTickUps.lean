/-
  For every three unsigned 64-bit numbers TickUps answers true, and changes nothing: a quotient rounded up is the least that is enough, and of a sum of spans the time is the same, whichever comes first. No condition.
-/
import Derived.Test.YtbhkghlgchoglaaRows
import Derived.WalkKit
import Derived.ProofKit
import Derived.OpenShut
import Derived.Test.YtbhkghlgchoglaaTickAw
import Derived.Test.YtbhkghlgchoglaaTickV
namespace Go.Proofs.Ytbhkghlgchoglaa.tickUps
open Go.ChangeShapes Go.WideShapes Go.ChangeAt Go.RowKit
set_option linter.unusedVariables false      -- a walk need not use every 'w<i>' (that an integer argument fits its kind)

theorem own : ownKnob Try.prog.godebug = none := by kernel_rfl

theorem add_g (t s x c : Int) (w : World) (h0 : 0 ≤ t) (h1 : 0 ≤ s) (hx : addV t s = x) (hc : addE t s = c) : Calls Try.prog 12 #[.int .u64 t, .int .u64 s] w fun e w' => e = .returned (.tuple #[.int .u64 x, .int .i64 c]) ∧ w = w' := by
  subst hx; subst hc; exact add_v t s w h0 h1
def Fit (t s : Int) : Prop := s ≤ 4611686018427387904 ∧ t + s < 4611686018427387904
theorem addV_y {t s : Int} (h : Fit t s) : addV t s = t + s := if_pos h
theorem addE_y {t s : Int} (h : Fit t s) : addE t s = 0 := if_pos h
theorem addV_n {t s : Int} (h : ¬ Fit t s) : addV t s = 0 := if_neg h
theorem addE_n {t s : Int} (h : ¬ Fit t s) : addE t s = 2 := if_neg h
theorem addE_01 (t s : Int) : addE t s = 0 ∨ addE t s = 2 := by unfold addE; split <;> simp
theorem addV_le {t s : Int} (h0 : 0 ≤ t) (h1 : 0 ≤ s) : 0 ≤ addV t s ∧ addV t s ≤ 18446744073709551615 := by unfold addV; split <;> omega
/-- The walk, where the four sums are given; Ups: the part about quotients. -/
theorem walk_Ay (t a b : Int) (w : World) (b0 : 0 ≤ t ∧ t ≤ 18446744073709551615) (b1 : 0 ≤ a ∧ a ≤ 18446744073709551615) (b2 : 0 ≤ b ∧ b ≤ 18446744073709551615) (k : t + a + b < 4611686018427387904) (hu : 1 ≤ a ∧ a < 2147483648 ∧ b < 2147483648) :
    Calls Try.prog 6 #[.int .u64 t, .int .u64 a, .int .u64 b] w fun e w' => e = .returned (.bool true) ∧ Grown w w' := by
  have F1 : Fit t a := ⟨by omega, by omega⟩
  have F2 : Fit (t + a) b := ⟨by omega, by omega⟩
  have F3 : Fit t b := ⟨by omega, by omega⟩
  have F4 : Fit (t + b) a := ⟨by omega, by omega⟩
  have A1 := Lib.hid fun w => add_g t a (t + a) 0 w (by omega) (by omega) (addV_y F1) (addE_y F1)
  have A2 := Lib.hid fun w => add_g (t + a) b (t + a + b) 0 w (by omega) (by omega) (addV_y F2) (addE_y F2)
  have A3 := Lib.hid fun w => add_g t b (t + b) 0 w (by omega) (by omega) (addV_y F3) (addE_y F3)
  have A4 := Lib.hid fun w => add_g (t + b) a (t + b + a) 0 w (by omega) (by omega) (addV_y F4) (addE_y F4)
  clear F1 F2 F3 F4
  have s1 : t + b + a = t + a + b := by omega
  have s2 : t + a + b - t = a + b := by omega
  obtain ⟨u1, u2, u3⟩ := hu
  have q1 := tUp_enough (n := b) (d := a) (by omega)
  have q2 := tUp_least (n := b) (d := a) (by omega)
  have q3 := tUp_nonneg (n := b) (d := a) (by omega) (by omega)
  have q4 := tUp_le (n := b) (d := a) (by omega) (by omega)
  have q5 : tUp b a * a ≤ 9223372036854775807 := by rw [Int.sub_mul] at q2; omega
  have q6 : 0 ≤ tUp b a * a := Int.mul_nonneg q3 (by omega)
  have q7 : tUp b a * a - a = (tUp b a - 1) * a := by rw [Int.sub_mul]; omega
  have q8 : (tUp b a - 1) * a ≤ 9223372036854775807 := by omega
  have q9 : 0 < tUp b a → 0 ≤ (tUp b a - 1) * a := fun h => Int.mul_nonneg (by omega) (by omega)
  have r1 : decide (tUp b a * a < b) = false := decide_eq_false (by omega)
  have r2 : decide (b ≤ (tUp b a - 1) * a) = false := decide_eq_false (by omega)
  go_enter Try.func6, Try.ntmps6
  go_wp2_with (first | (go_at_call 11; refine (awake_any _).mono ?_; rintro e w' ⟨rfl, rfl⟩) | (go_at_call 18; refine (up_any _ _ _ (by omega) (by omega) (by omega)).mono ?_; rintro e w' ⟨rfl, rfl⟩) | (go_at_call 12; ((with_reducible refine (A1.out _).mono ?_); rintro e w' ⟨rfl, rfl⟩)) | (go_at_call 12; ((with_reducible refine (A2.out _).mono ?_); rintro e w' ⟨rfl, rfl⟩)) | (go_at_call 12; ((with_reducible refine (A3.out _).mono ?_); rintro e w' ⟨rfl, rfl⟩)) | (go_at_call 12; ((with_reducible refine (A4.out _).mono ?_); rintro e w' ⟨rfl, rfl⟩)))
  all_goals go_ret
  all_goals exact ⟨rfl, Grown.refl _⟩
theorem walk_An (t a b : Int) (w : World) (b0 : 0 ≤ t ∧ t ≤ 18446744073709551615) (b1 : 0 ≤ a ∧ a ≤ 18446744073709551615) (b2 : 0 ≤ b ∧ b ≤ 18446744073709551615) (k : t + a + b < 4611686018427387904) (hu : a < 1 ∨ 2147483648 ≤ a ∨ 2147483648 ≤ b) :
    Calls Try.prog 6 #[.int .u64 t, .int .u64 a, .int .u64 b] w fun e w' => e = .returned (.bool true) ∧ Grown w w' := by
  have F1 : Fit t a := ⟨by omega, by omega⟩
  have F2 : Fit (t + a) b := ⟨by omega, by omega⟩
  have F3 : Fit t b := ⟨by omega, by omega⟩
  have F4 : Fit (t + b) a := ⟨by omega, by omega⟩
  have A1 := Lib.hid fun w => add_g t a (t + a) 0 w (by omega) (by omega) (addV_y F1) (addE_y F1)
  have A2 := Lib.hid fun w => add_g (t + a) b (t + a + b) 0 w (by omega) (by omega) (addV_y F2) (addE_y F2)
  have A3 := Lib.hid fun w => add_g t b (t + b) 0 w (by omega) (by omega) (addV_y F3) (addE_y F3)
  have A4 := Lib.hid fun w => add_g (t + b) a (t + b + a) 0 w (by omega) (by omega) (addV_y F4) (addE_y F4)
  clear F1 F2 F3 F4
  have s1 : t + b + a = t + a + b := by omega
  have s2 : t + a + b - t = a + b := by omega
  go_enter Try.func6, Try.ntmps6
  go_wp2_with (first | (go_at_call 11; refine (awake_any _).mono ?_; rintro e w' ⟨rfl, rfl⟩) | (go_at_call 18; refine (up_any _ _ _ (by omega) (by omega) (by omega)).mono ?_; rintro e w' ⟨rfl, rfl⟩) | (go_at_call 12; ((with_reducible refine (A1.out _).mono ?_); rintro e w' ⟨rfl, rfl⟩)) | (go_at_call 12; ((with_reducible refine (A2.out _).mono ?_); rintro e w' ⟨rfl, rfl⟩)) | (go_at_call 12; ((with_reducible refine (A3.out _).mono ?_); rintro e w' ⟨rfl, rfl⟩)) | (go_at_call 12; ((with_reducible refine (A4.out _).mono ?_); rintro e w' ⟨rfl, rfl⟩)))
  all_goals go_ret
  all_goals exact ⟨rfl, Grown.refl _⟩
theorem walk_By (t a b : Int) (w : World) (b0 : 0 ≤ t ∧ t ≤ 18446744073709551615) (b1 : 0 ≤ a ∧ a ≤ 18446744073709551615) (b2 : 0 ≤ b ∧ b ≤ 18446744073709551615) (k : ¬ t + a + b < 4611686018427387904) (k1 : Fit t a) (k3 : Fit t b) (hu : 1 ≤ a ∧ a < 2147483648 ∧ b < 2147483648) :
    Calls Try.prog 6 #[.int .u64 t, .int .u64 a, .int .u64 b] w fun e w' => e = .returned (.bool true) ∧ Grown w w' := by
  have F2 : ¬ Fit (t + a) b := fun h => by unfold Fit at h; omega
  have F4 : ¬ Fit (t + b) a := fun h => by unfold Fit at h; omega
  have A1 := Lib.hid fun w => add_g t a (t + a) 0 w (by omega) (by omega) (addV_y k1) (addE_y k1)
  have A2 := Lib.hid fun w => add_g (t + a) b 0 2 w (by omega) (by omega) (addV_n F2) (addE_n F2)
  have A3 := Lib.hid fun w => add_g t b (t + b) 0 w (by omega) (by omega) (addV_y k3) (addE_y k3)
  have A4 := Lib.hid fun w => add_g (t + b) a 0 2 w (by omega) (by omega) (addV_n F4) (addE_n F4)
  obtain ⟨f1, f2⟩ := k1
  obtain ⟨f3, f4⟩ := k3
  clear F2 F4 k
  obtain ⟨u1, u2, u3⟩ := hu
  have q1 := tUp_enough (n := b) (d := a) (by omega)
  have q2 := tUp_least (n := b) (d := a) (by omega)
  have q3 := tUp_nonneg (n := b) (d := a) (by omega) (by omega)
  have q4 := tUp_le (n := b) (d := a) (by omega) (by omega)
  have q5 : tUp b a * a ≤ 9223372036854775807 := by rw [Int.sub_mul] at q2; omega
  have q6 : 0 ≤ tUp b a * a := Int.mul_nonneg q3 (by omega)
  have q7 : tUp b a * a - a = (tUp b a - 1) * a := by rw [Int.sub_mul]; omega
  have q8 : (tUp b a - 1) * a ≤ 9223372036854775807 := by omega
  have q9 : 0 < tUp b a → 0 ≤ (tUp b a - 1) * a := fun h => Int.mul_nonneg (by omega) (by omega)
  have r1 : decide (tUp b a * a < b) = false := decide_eq_false (by omega)
  have r2 : decide (b ≤ (tUp b a - 1) * a) = false := decide_eq_false (by omega)
  go_enter Try.func6, Try.ntmps6
  go_wp2_with (first | (go_at_call 11; refine (awake_any _).mono ?_; rintro e w' ⟨rfl, rfl⟩) | (go_at_call 18; refine (up_any _ _ _ (by omega) (by omega) (by omega)).mono ?_; rintro e w' ⟨rfl, rfl⟩) | (go_at_call 12; ((with_reducible refine (A1.out _).mono ?_); rintro e w' ⟨rfl, rfl⟩)) | (go_at_call 12; ((with_reducible refine (A2.out _).mono ?_); rintro e w' ⟨rfl, rfl⟩)) | (go_at_call 12; ((with_reducible refine (A3.out _).mono ?_); rintro e w' ⟨rfl, rfl⟩)) | (go_at_call 12; ((with_reducible refine (A4.out _).mono ?_); rintro e w' ⟨rfl, rfl⟩)))
  all_goals go_ret
  all_goals exact ⟨rfl, Grown.refl _⟩
theorem walk_Bn (t a b : Int) (w : World) (b0 : 0 ≤ t ∧ t ≤ 18446744073709551615) (b1 : 0 ≤ a ∧ a ≤ 18446744073709551615) (b2 : 0 ≤ b ∧ b ≤ 18446744073709551615) (k : ¬ t + a + b < 4611686018427387904) (k1 : Fit t a) (k3 : Fit t b) (hu : a < 1 ∨ 2147483648 ≤ a ∨ 2147483648 ≤ b) :
    Calls Try.prog 6 #[.int .u64 t, .int .u64 a, .int .u64 b] w fun e w' => e = .returned (.bool true) ∧ Grown w w' := by
  have F2 : ¬ Fit (t + a) b := fun h => by unfold Fit at h; omega
  have F4 : ¬ Fit (t + b) a := fun h => by unfold Fit at h; omega
  have A1 := Lib.hid fun w => add_g t a (t + a) 0 w (by omega) (by omega) (addV_y k1) (addE_y k1)
  have A2 := Lib.hid fun w => add_g (t + a) b 0 2 w (by omega) (by omega) (addV_n F2) (addE_n F2)
  have A3 := Lib.hid fun w => add_g t b (t + b) 0 w (by omega) (by omega) (addV_y k3) (addE_y k3)
  have A4 := Lib.hid fun w => add_g (t + b) a 0 2 w (by omega) (by omega) (addV_n F4) (addE_n F4)
  obtain ⟨f1, f2⟩ := k1
  obtain ⟨f3, f4⟩ := k3
  clear F2 F4 k
  go_enter Try.func6, Try.ntmps6
  go_wp2_with (first | (go_at_call 11; refine (awake_any _).mono ?_; rintro e w' ⟨rfl, rfl⟩) | (go_at_call 18; refine (up_any _ _ _ (by omega) (by omega) (by omega)).mono ?_; rintro e w' ⟨rfl, rfl⟩) | (go_at_call 12; ((with_reducible refine (A1.out _).mono ?_); rintro e w' ⟨rfl, rfl⟩)) | (go_at_call 12; ((with_reducible refine (A2.out _).mono ?_); rintro e w' ⟨rfl, rfl⟩)) | (go_at_call 12; ((with_reducible refine (A3.out _).mono ?_); rintro e w' ⟨rfl, rfl⟩)) | (go_at_call 12; ((with_reducible refine (A4.out _).mono ?_); rintro e w' ⟨rfl, rfl⟩)))
  all_goals go_ret
  all_goals exact ⟨rfl, Grown.refl _⟩
theorem walk_Cy (t a b : Int) (w : World) (b0 : 0 ≤ t ∧ t ≤ 18446744073709551615) (b1 : 0 ≤ a ∧ a ≤ 18446744073709551615) (b2 : 0 ≤ b ∧ b ≤ 18446744073709551615) (k1 : Fit t a) (k3 : ¬ Fit t b) (hu : 1 ≤ a ∧ a < 2147483648 ∧ b < 2147483648) :
    Calls Try.prog 6 #[.int .u64 t, .int .u64 a, .int .u64 b] w fun e w' => e = .returned (.bool true) ∧ Grown w w' := by
  have F2 : ¬ Fit (t + a) b := fun h => k3 (by unfold Fit at *; omega)
  obtain ⟨v, hv⟩ : ∃ v, addV 0 a = v := ⟨_, rfl⟩
  obtain ⟨c, hc⟩ : ∃ c, addE 0 a = c := ⟨_, rfl⟩
  have A1 := Lib.hid fun w => add_g t a (t + a) 0 w (by omega) (by omega) (addV_y k1) (addE_y k1)
  have A2 := Lib.hid fun w => add_g (t + a) b 0 2 w (by omega) (by omega) (addV_n F2) (addE_n F2)
  have A3 := Lib.hid fun w => add_g t b 0 2 w (by omega) (by omega) (addV_n k3) (addE_n k3)
  have A4 := Lib.hid fun w => add_g 0 a v c w (by omega) (by omega) (hv) (hc)
  obtain ⟨f1, f2⟩ := k1
  clear k3 hv hc F2
  obtain ⟨u1, u2, u3⟩ := hu
  have q1 := tUp_enough (n := b) (d := a) (by omega)
  have q2 := tUp_least (n := b) (d := a) (by omega)
  have q3 := tUp_nonneg (n := b) (d := a) (by omega) (by omega)
  have q4 := tUp_le (n := b) (d := a) (by omega) (by omega)
  have q5 : tUp b a * a ≤ 9223372036854775807 := by rw [Int.sub_mul] at q2; omega
  have q6 : 0 ≤ tUp b a * a := Int.mul_nonneg q3 (by omega)
  have q7 : tUp b a * a - a = (tUp b a - 1) * a := by rw [Int.sub_mul]; omega
  have q8 : (tUp b a - 1) * a ≤ 9223372036854775807 := by omega
  have q9 : 0 < tUp b a → 0 ≤ (tUp b a - 1) * a := fun h => Int.mul_nonneg (by omega) (by omega)
  have r1 : decide (tUp b a * a < b) = false := decide_eq_false (by omega)
  have r2 : decide (b ≤ (tUp b a - 1) * a) = false := decide_eq_false (by omega)
  go_enter Try.func6, Try.ntmps6
  go_wp2_with (first | (go_at_call 11; refine (awake_any _).mono ?_; rintro e w' ⟨rfl, rfl⟩) | (go_at_call 18; refine (up_any _ _ _ (by omega) (by omega) (by omega)).mono ?_; rintro e w' ⟨rfl, rfl⟩) | (go_at_call 12; ((with_reducible refine (A1.out _).mono ?_); rintro e w' ⟨rfl, rfl⟩)) | (go_at_call 12; ((with_reducible refine (A2.out _).mono ?_); rintro e w' ⟨rfl, rfl⟩)) | (go_at_call 12; ((with_reducible refine (A3.out _).mono ?_); rintro e w' ⟨rfl, rfl⟩)) | (go_at_call 12; ((with_reducible refine (A4.out _).mono ?_); rintro e w' ⟨rfl, rfl⟩)))
  all_goals go_ret
  all_goals exact ⟨rfl, Grown.refl _⟩
theorem walk_Cn (t a b : Int) (w : World) (b0 : 0 ≤ t ∧ t ≤ 18446744073709551615) (b1 : 0 ≤ a ∧ a ≤ 18446744073709551615) (b2 : 0 ≤ b ∧ b ≤ 18446744073709551615) (k1 : Fit t a) (k3 : ¬ Fit t b) (hu : a < 1 ∨ 2147483648 ≤ a ∨ 2147483648 ≤ b) :
    Calls Try.prog 6 #[.int .u64 t, .int .u64 a, .int .u64 b] w fun e w' => e = .returned (.bool true) ∧ Grown w w' := by
  have F2 : ¬ Fit (t + a) b := fun h => k3 (by unfold Fit at *; omega)
  obtain ⟨v, hv⟩ : ∃ v, addV 0 a = v := ⟨_, rfl⟩
  obtain ⟨c, hc⟩ : ∃ c, addE 0 a = c := ⟨_, rfl⟩
  have A1 := Lib.hid fun w => add_g t a (t + a) 0 w (by omega) (by omega) (addV_y k1) (addE_y k1)
  have A2 := Lib.hid fun w => add_g (t + a) b 0 2 w (by omega) (by omega) (addV_n F2) (addE_n F2)
  have A3 := Lib.hid fun w => add_g t b 0 2 w (by omega) (by omega) (addV_n k3) (addE_n k3)
  have A4 := Lib.hid fun w => add_g 0 a v c w (by omega) (by omega) (hv) (hc)
  obtain ⟨f1, f2⟩ := k1
  clear k3 hv hc F2
  go_enter Try.func6, Try.ntmps6
  go_wp2_with (first | (go_at_call 11; refine (awake_any _).mono ?_; rintro e w' ⟨rfl, rfl⟩) | (go_at_call 18; refine (up_any _ _ _ (by omega) (by omega) (by omega)).mono ?_; rintro e w' ⟨rfl, rfl⟩) | (go_at_call 12; ((with_reducible refine (A1.out _).mono ?_); rintro e w' ⟨rfl, rfl⟩)) | (go_at_call 12; ((with_reducible refine (A2.out _).mono ?_); rintro e w' ⟨rfl, rfl⟩)) | (go_at_call 12; ((with_reducible refine (A3.out _).mono ?_); rintro e w' ⟨rfl, rfl⟩)) | (go_at_call 12; ((with_reducible refine (A4.out _).mono ?_); rintro e w' ⟨rfl, rfl⟩)))
  all_goals go_ret
  all_goals exact ⟨rfl, Grown.refl _⟩
theorem walk_Dy (t a b : Int) (w : World) (b0 : 0 ≤ t ∧ t ≤ 18446744073709551615) (b1 : 0 ≤ a ∧ a ≤ 18446744073709551615) (b2 : 0 ≤ b ∧ b ≤ 18446744073709551615) (k1 : ¬ Fit t a) (k3 : Fit t b) (hu : 1 ≤ a ∧ a < 2147483648 ∧ b < 2147483648) :
    Calls Try.prog 6 #[.int .u64 t, .int .u64 a, .int .u64 b] w fun e w' => e = .returned (.bool true) ∧ Grown w w' := by
  have F4 : ¬ Fit (t + b) a := fun h => k1 (by unfold Fit at *; omega)
  obtain ⟨v, hv⟩ : ∃ v, addV 0 b = v := ⟨_, rfl⟩
  obtain ⟨c, hc⟩ : ∃ c, addE 0 b = c := ⟨_, rfl⟩
  have A1 := Lib.hid fun w => add_g t a 0 2 w (by omega) (by omega) (addV_n k1) (addE_n k1)
  have A2 := Lib.hid fun w => add_g 0 b v c w (by omega) (by omega) (hv) (hc)
  have A3 := Lib.hid fun w => add_g t b (t + b) 0 w (by omega) (by omega) (addV_y k3) (addE_y k3)
  have A4 := Lib.hid fun w => add_g (t + b) a 0 2 w (by omega) (by omega) (addV_n F4) (addE_n F4)
  obtain ⟨f3, f4⟩ := k3
  clear k1 hv hc F4
  obtain ⟨u1, u2, u3⟩ := hu
  have q1 := tUp_enough (n := b) (d := a) (by omega)
  have q2 := tUp_least (n := b) (d := a) (by omega)
  have q3 := tUp_nonneg (n := b) (d := a) (by omega) (by omega)
  have q4 := tUp_le (n := b) (d := a) (by omega) (by omega)
  have q5 : tUp b a * a ≤ 9223372036854775807 := by rw [Int.sub_mul] at q2; omega
  have q6 : 0 ≤ tUp b a * a := Int.mul_nonneg q3 (by omega)
  have q7 : tUp b a * a - a = (tUp b a - 1) * a := by rw [Int.sub_mul]; omega
  have q8 : (tUp b a - 1) * a ≤ 9223372036854775807 := by omega
  have q9 : 0 < tUp b a → 0 ≤ (tUp b a - 1) * a := fun h => Int.mul_nonneg (by omega) (by omega)
  have r1 : decide (tUp b a * a < b) = false := decide_eq_false (by omega)
  have r2 : decide (b ≤ (tUp b a - 1) * a) = false := decide_eq_false (by omega)
  go_enter Try.func6, Try.ntmps6
  go_wp2_with (first | (go_at_call 11; refine (awake_any _).mono ?_; rintro e w' ⟨rfl, rfl⟩) | (go_at_call 18; refine (up_any _ _ _ (by omega) (by omega) (by omega)).mono ?_; rintro e w' ⟨rfl, rfl⟩) | (go_at_call 12; ((with_reducible refine (A1.out _).mono ?_); rintro e w' ⟨rfl, rfl⟩)) | (go_at_call 12; ((with_reducible refine (A2.out _).mono ?_); rintro e w' ⟨rfl, rfl⟩)) | (go_at_call 12; ((with_reducible refine (A3.out _).mono ?_); rintro e w' ⟨rfl, rfl⟩)) | (go_at_call 12; ((with_reducible refine (A4.out _).mono ?_); rintro e w' ⟨rfl, rfl⟩)))
  all_goals go_ret
  all_goals exact ⟨rfl, Grown.refl _⟩
theorem walk_Dn (t a b : Int) (w : World) (b0 : 0 ≤ t ∧ t ≤ 18446744073709551615) (b1 : 0 ≤ a ∧ a ≤ 18446744073709551615) (b2 : 0 ≤ b ∧ b ≤ 18446744073709551615) (k1 : ¬ Fit t a) (k3 : Fit t b) (hu : a < 1 ∨ 2147483648 ≤ a ∨ 2147483648 ≤ b) :
    Calls Try.prog 6 #[.int .u64 t, .int .u64 a, .int .u64 b] w fun e w' => e = .returned (.bool true) ∧ Grown w w' := by
  have F4 : ¬ Fit (t + b) a := fun h => k1 (by unfold Fit at *; omega)
  obtain ⟨v, hv⟩ : ∃ v, addV 0 b = v := ⟨_, rfl⟩
  obtain ⟨c, hc⟩ : ∃ c, addE 0 b = c := ⟨_, rfl⟩
  have A1 := Lib.hid fun w => add_g t a 0 2 w (by omega) (by omega) (addV_n k1) (addE_n k1)
  have A2 := Lib.hid fun w => add_g 0 b v c w (by omega) (by omega) (hv) (hc)
  have A3 := Lib.hid fun w => add_g t b (t + b) 0 w (by omega) (by omega) (addV_y k3) (addE_y k3)
  have A4 := Lib.hid fun w => add_g (t + b) a 0 2 w (by omega) (by omega) (addV_n F4) (addE_n F4)
  obtain ⟨f3, f4⟩ := k3
  clear k1 hv hc F4
  go_enter Try.func6, Try.ntmps6
  go_wp2_with (first | (go_at_call 11; refine (awake_any _).mono ?_; rintro e w' ⟨rfl, rfl⟩) | (go_at_call 18; refine (up_any _ _ _ (by omega) (by omega) (by omega)).mono ?_; rintro e w' ⟨rfl, rfl⟩) | (go_at_call 12; ((with_reducible refine (A1.out _).mono ?_); rintro e w' ⟨rfl, rfl⟩)) | (go_at_call 12; ((with_reducible refine (A2.out _).mono ?_); rintro e w' ⟨rfl, rfl⟩)) | (go_at_call 12; ((with_reducible refine (A3.out _).mono ?_); rintro e w' ⟨rfl, rfl⟩)) | (go_at_call 12; ((with_reducible refine (A4.out _).mono ?_); rintro e w' ⟨rfl, rfl⟩)))
  all_goals go_ret
  all_goals exact ⟨rfl, Grown.refl _⟩
theorem walk_Ey (t a b : Int) (w : World) (b0 : 0 ≤ t ∧ t ≤ 18446744073709551615) (b1 : 0 ≤ a ∧ a ≤ 18446744073709551615) (b2 : 0 ≤ b ∧ b ≤ 18446744073709551615) (k1 : ¬ Fit t a) (k3 : ¬ Fit t b) (hu : 1 ≤ a ∧ a < 2147483648 ∧ b < 2147483648) :
    Calls Try.prog 6 #[.int .u64 t, .int .u64 a, .int .u64 b] w fun e w' => e = .returned (.bool true) ∧ Grown w w' := by
  obtain ⟨v, hv⟩ : ∃ v, addV 0 b = v := ⟨_, rfl⟩
  obtain ⟨c, hc⟩ : ∃ c, addE 0 b = c := ⟨_, rfl⟩
  obtain ⟨v2, hv2⟩ : ∃ v, addV 0 a = v := ⟨_, rfl⟩
  obtain ⟨c2, hc2⟩ : ∃ c, addE 0 a = c := ⟨_, rfl⟩
  have A1 := Lib.hid fun w => add_g t a 0 2 w (by omega) (by omega) (addV_n k1) (addE_n k1)
  have A2 := Lib.hid fun w => add_g 0 b v c w (by omega) (by omega) (hv) (hc)
  have A3 := Lib.hid fun w => add_g t b 0 2 w (by omega) (by omega) (addV_n k3) (addE_n k3)
  have A4 := Lib.hid fun w => add_g 0 a v2 c2 w (by omega) (by omega) (hv2) (hc2)
  clear k1 k3 hv hc hv2 hc2
  obtain ⟨u1, u2, u3⟩ := hu
  have q1 := tUp_enough (n := b) (d := a) (by omega)
  have q2 := tUp_least (n := b) (d := a) (by omega)
  have q3 := tUp_nonneg (n := b) (d := a) (by omega) (by omega)
  have q4 := tUp_le (n := b) (d := a) (by omega) (by omega)
  have q5 : tUp b a * a ≤ 9223372036854775807 := by rw [Int.sub_mul] at q2; omega
  have q6 : 0 ≤ tUp b a * a := Int.mul_nonneg q3 (by omega)
  have q7 : tUp b a * a - a = (tUp b a - 1) * a := by rw [Int.sub_mul]; omega
  have q8 : (tUp b a - 1) * a ≤ 9223372036854775807 := by omega
  have q9 : 0 < tUp b a → 0 ≤ (tUp b a - 1) * a := fun h => Int.mul_nonneg (by omega) (by omega)
  have r1 : decide (tUp b a * a < b) = false := decide_eq_false (by omega)
  have r2 : decide (b ≤ (tUp b a - 1) * a) = false := decide_eq_false (by omega)
  go_enter Try.func6, Try.ntmps6
  go_wp2_with (first | (go_at_call 11; refine (awake_any _).mono ?_; rintro e w' ⟨rfl, rfl⟩) | (go_at_call 18; refine (up_any _ _ _ (by omega) (by omega) (by omega)).mono ?_; rintro e w' ⟨rfl, rfl⟩) | (go_at_call 12; ((with_reducible refine (A1.out _).mono ?_); rintro e w' ⟨rfl, rfl⟩)) | (go_at_call 12; ((with_reducible refine (A2.out _).mono ?_); rintro e w' ⟨rfl, rfl⟩)) | (go_at_call 12; ((with_reducible refine (A3.out _).mono ?_); rintro e w' ⟨rfl, rfl⟩)) | (go_at_call 12; ((with_reducible refine (A4.out _).mono ?_); rintro e w' ⟨rfl, rfl⟩)))
  all_goals go_ret
  all_goals exact ⟨rfl, Grown.refl _⟩
theorem walk_En (t a b : Int) (w : World) (b0 : 0 ≤ t ∧ t ≤ 18446744073709551615) (b1 : 0 ≤ a ∧ a ≤ 18446744073709551615) (b2 : 0 ≤ b ∧ b ≤ 18446744073709551615) (k1 : ¬ Fit t a) (k3 : ¬ Fit t b) (hu : a < 1 ∨ 2147483648 ≤ a ∨ 2147483648 ≤ b) :
    Calls Try.prog 6 #[.int .u64 t, .int .u64 a, .int .u64 b] w fun e w' => e = .returned (.bool true) ∧ Grown w w' := by
  obtain ⟨v, hv⟩ : ∃ v, addV 0 b = v := ⟨_, rfl⟩
  obtain ⟨c, hc⟩ : ∃ c, addE 0 b = c := ⟨_, rfl⟩
  obtain ⟨v2, hv2⟩ : ∃ v, addV 0 a = v := ⟨_, rfl⟩
  obtain ⟨c2, hc2⟩ : ∃ c, addE 0 a = c := ⟨_, rfl⟩
  have A1 := Lib.hid fun w => add_g t a 0 2 w (by omega) (by omega) (addV_n k1) (addE_n k1)
  have A2 := Lib.hid fun w => add_g 0 b v c w (by omega) (by omega) (hv) (hc)
  have A3 := Lib.hid fun w => add_g t b 0 2 w (by omega) (by omega) (addV_n k3) (addE_n k3)
  have A4 := Lib.hid fun w => add_g 0 a v2 c2 w (by omega) (by omega) (hv2) (hc2)
  clear k1 k3 hv hc hv2 hc2
  go_enter Try.func6, Try.ntmps6
  go_wp2_with (first | (go_at_call 11; refine (awake_any _).mono ?_; rintro e w' ⟨rfl, rfl⟩) | (go_at_call 18; refine (up_any _ _ _ (by omega) (by omega) (by omega)).mono ?_; rintro e w' ⟨rfl, rfl⟩) | (go_at_call 12; ((with_reducible refine (A1.out _).mono ?_); rintro e w' ⟨rfl, rfl⟩)) | (go_at_call 12; ((with_reducible refine (A2.out _).mono ?_); rintro e w' ⟨rfl, rfl⟩)) | (go_at_call 12; ((with_reducible refine (A3.out _).mono ?_); rintro e w' ⟨rfl, rfl⟩)) | (go_at_call 12; ((with_reducible refine (A4.out _).mono ?_); rintro e w' ⟨rfl, rfl⟩)))
  all_goals go_ret
  all_goals exact ⟨rfl, Grown.refl _⟩
/-! ### STEP 1: THE WALK: the Go text returns true. 'Grown w w'': the world has at most new blocks (Derived/RowKit3.lean). Part the cases AHEAD of 'go_enter' where a test parts the walk; take each callee by a contract of your own. -/
theorem walk (a0 : Int) (a1 : Int) (a2 : Int) (w0 : (Lit.int .u64 a0).wf = true) (w1 : (Lit.int .u64 a1).wf = true) (w2 : (Lit.int .u64 a2).wf = true) (w : World) :
    Calls Try.prog 6 #[.int .u64 a0, .int .u64 a1, .int .u64 a2] w fun e w' => e = .returned (.bool true) ∧ Grown w w' := by
  have b0 := bounds_u64 w0
  have b1 := bounds_u64 w1
  have b2 := bounds_u64 w2
  by_cases hu : 1 ≤ a1 ∧ a1 < 2147483648 ∧ a2 < 2147483648
  · by_cases k1 : Fit a0 a1
    · by_cases k3 : Fit a0 a2
      · by_cases k : a0 + a1 + a2 < 4611686018427387904
        · exact walk_Ay a0 a1 a2 w b0 b1 b2 k hu
        · exact walk_By a0 a1 a2 w b0 b1 b2 k k1 k3 hu
      · exact walk_Cy a0 a1 a2 w b0 b1 b2 k1 k3 hu
    · by_cases k3 : Fit a0 a2
      · exact walk_Dy a0 a1 a2 w b0 b1 b2 k1 k3 hu
      · exact walk_Ey a0 a1 a2 w b0 b1 b2 k1 k3 hu
  · have hu : a1 < 1 ∨ 2147483648 ≤ a1 ∨ 2147483648 ≤ a2 := by omega
    by_cases k1 : Fit a0 a1
    · by_cases k3 : Fit a0 a2
      · by_cases k : a0 + a1 + a2 < 4611686018427387904
        · exact walk_An a0 a1 a2 w b0 b1 b2 k hu
        · exact walk_Bn a0 a1 a2 w b0 b1 b2 k k1 k3 hu
      · exact walk_Cn a0 a1 a2 w b0 b1 b2 k1 k3 hu
    · by_cases k3 : Fit a0 a2
      · exact walk_Dn a0 a1 a2 w b0 b1 b2 k1 k3 hu
      · exact walk_En a0 a1 a2 w b0 b1 b2 k1 k3 hu

/-! ### THE ROW's STEP: WRITTEN OUT: LEAVE IT -/
set_option maxRecDepth 100000 in
theorem lifted (os : Os) (started : os.Started) (H : Type) (enc : TypeId × Value → H) :
    ReturnsInHanded {} Try.checked os 6 .any (Rows.tickUpsSpec.pre6 enc Try.prog Try.f6 Rows.tickUpsRow.domain false) (Rows.tickUpsSpec.post enc Try.prog Try.f6 false true false false) := by
  refine returnsInHanded_of_change (C := Try.checked) own started (by kernel_rfl) Try.func6
    (ChangeSpec.witness6 (enc := enc) (C := Try.checked) false ⟨#[], #[.int .u64 0, .int .u64 0, .int .u64 0], []⟩ 8 (by kernel_rfl) (by kernel_rfl) (by kernel_rfl) (by kernel_rfl)) ?_
  intro W base args ds gs before hval0 hW hcnd _
  have hval : ∀ (j : Nat) t v, Try.f6.params[j]? = some t → args[j]? = some v → Value.okWide Try.prog W .any base t v := hval0
  have hW' := hW
  obtain ⟨p, q, hA0, hV, rfl, hfz, hnd⟩ := hW
  have hA : DataW.TrodAll enc Try.prog W 0 (fun _ => true) true Try.f6.params.toList args.toList ds p := hA0
  rw [Try.params6] at hA hval
  obtain ⟨v0, vs0, d0, ds0, p0, q0, hargs, rfl, rfl, h0, r0⟩ := trodAll_cons hA
  obtain ⟨v1, vs1, d1, ds1, p1, q1, rfl, rfl, rfl, h1, r1⟩ := trodAll_cons r0
  obtain ⟨v2, vs2, d2, ds2, p2, q2, rfl, rfl, rfl, h2, r2⟩ := trodAll_cons r1
  obtain ⟨rfl, rfl, rfl⟩ := trodAll_nil r2
  obtain rfl : args = #[v0, v1, v2] := by cases args; simp_all
  obtain ⟨rfl, rfl⟩ := trodVars_none hV
  obtain ⟨a0, rfl, rfl, rfl, w0⟩ := open_int Try.underlying22 (hval 0 22 v0 rfl rfl) h0
  obtain ⟨a1, rfl, rfl, rfl, w1⟩ := open_int Try.underlying22 (hval 1 22 v1 rfl rfl) h1
  obtain ⟨a2, rfl, rfl, rfl, w2⟩ := open_int Try.underlying22 (hval 2 22 v2 rfl rfl) h2
  clear hA0 hval0
  simp only [List.append_nil] at hW'
  refine (walk a0 a1 a2 w0 w1 w2 W).mono fun e W' ⟨he, hg⟩ => ?_
  subst he
  exact ⟨_, rfl, post_of_same (pa := []) (pv := []) hW' (fun _ _ _ => (trodAll_cons_mk (shut_bool Try.underlying4 _) trodAll_mk0)) (fun sp _ => (trodAll_cons_mk (shut_int Try.underlying22 w0) (trodAll_cons_mk (shut_int Try.underlying22 w1) (trodAll_cons_mk (shut_int Try.underlying22 w2) trodAll_mk0)))) (fun _ _ => rfl) rfl
    (hg.frame _) hg.2.1 (ok_one (by kernel_rfl) rfl (okWide_bool_mk Try.underlying4 _))⟩

theorem over : Rows.tickUpsRow.holds Try.pinned (OpenSpec.ofChange Rows.tickUpsSpec) :=
  OpenClaim.holds_of_wide 6 Try.f6 rfl rfl rfl rfl rfl rfl rfl ⟨rfl, rfl, rfl, rfl, rfl⟩ rfl rfl rfl rfl rfl (by kernel_rfl) Try.func6 (by kernel_rfl)
    (of_decide_eq_true (by kernel_rfl)) (by unfold Func.isWrapper; first | (rw [if_pos (by decide +kernel)]; kernel_rfl) | (rw [if_neg (by decide +kernel)]; exact ⟨rfl, rfl⟩))
    (fun os started H enc _ => lifted os started H enc)

/-- ████ THE STATEMENT ████ -/
theorem proved : Rows.TickUpsSaid :=
  over
#print axioms proved
end Go.Proofs.Ytbhkghlgchoglaa.tickUps
