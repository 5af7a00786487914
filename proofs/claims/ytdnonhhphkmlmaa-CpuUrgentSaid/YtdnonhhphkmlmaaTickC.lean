/- Contracts of layer 1's functions. -/
import Derived.Test.YtdnonhhphkmlmaaRows
import Derived.Test.YtdnonhhphkmlmaaTickM
import Derived.WalkKit
import Derived.Lib.Hide
namespace Go.Proofs.Ytdnonhhphkmlmaa
open Go.RowKit
theorem may_any (t : Int) (w : World) : Calls Try.prog 38 #[.int .u64 t] w fun e w' => e = .returned (.bool (decide (t < 4611686018427387904))) ∧ w = w' := by
  go_enter Try.func38, Try.ntmps38
  go_wp2
  go_ret
  exact ⟨rfl, rfl⟩
theorem add_ok (t s : Int) (w : World) (h0 : 0 ≤ t) (h1 : 0 ≤ s) (h2 : s ≤ 4611686018427387904) (h3 : t + s < 4611686018427387904) : Calls Try.prog 28 #[.int .u64 t, .int .u64 s] w fun e w' => e = .returned (.tuple #[.int .u64 (t + s), .int .i64 0]) ∧ w = w' := by
  have d1 : decide (t < 4611686018427387904) = true := decide_eq_true (by omega)
  have d2 : decide (4611686018427387904 < s) = false := decide_eq_false (by omega)
  have d3 : decide (t + s < 4611686018427387904) = true := decide_eq_true h3
  go_enter Try.func28, Try.ntmps28
  go_wp2
  go_ret2
  exact ⟨rfl, rfl⟩
theorem add_no (t s : Int) (w : World) (h0 : 0 ≤ t) (h1 : 0 ≤ s) (h : ¬ (s ≤ 4611686018427387904 ∧ t + s < 4611686018427387904)) : Calls Try.prog 28 #[.int .u64 t, .int .u64 s] w fun e w' => e = .returned (.tuple #[.int .u64 0, .int .i64 2]) ∧ w = w' := by
  by_cases g1 : t < 4611686018427387904
  · have d1 : decide (t < 4611686018427387904) = true := decide_eq_true g1
    by_cases g2 : 4611686018427387904 < s
    · have d2 : decide (4611686018427387904 < s) = true := decide_eq_true g2
      clear h
      go_enter Try.func28, Try.ntmps28
      go_wp2
      go_ret2
      exact ⟨rfl, rfl⟩
    · have d2 : decide (4611686018427387904 < s) = false := decide_eq_false g2
      have d3 : decide (t + s < 4611686018427387904) = false := decide_eq_false (by omega)
      have d4 : t + s ≤ 9223372036854775807 := by omega
      clear h
      go_enter Try.func28, Try.ntmps28
      go_wp2
      go_ret2
      exact ⟨rfl, rfl⟩
  · have d1 : decide (t < 4611686018427387904) = false := decide_eq_false g1
    clear h
    go_enter Try.func28, Try.ntmps28
    go_wp2
    go_ret2
    exact ⟨rfl, rfl⟩
theorem up_0 (n : Int) (w : World) : Calls Try.prog 55 #[.int .u64 n, .int .u64 0] w fun e w' => e = .returned (.int .u64 0) ∧ w = w' := by
  go_enter Try.func55, Try.ntmps55
  go_wp2
  go_ret
  exact ⟨rfl, rfl⟩
theorem up_any (n d : Int) (w : World) (hn : 0 ≤ n) (hn1 : n ≤ 18446744073709551615) (hd : 1 ≤ d) : Calls Try.prog 55 #[.int .u64 n, .int .u64 d] w fun e w' => e = .returned (.int .u64 (tUp n d)) ∧ w = w' := by
  have z0 : (d == 0) = false := beq_eq_false_iff_ne.2 (by omega)
  have q0 : 0 ≤ n / d := Int.ediv_nonneg (by omega) (by omega)
  have q1 : n / d ≤ n := Int.ediv_le_self _ (by omega)
  have r0 : 0 ≤ n % d := Int.emod_nonneg n (by omega)
  have r1 : n % d ≤ n := by have e := Int.mul_ediv_add_emod n d; have := Int.mul_nonneg (show 0 ≤ d by omega) q0; omega
  by_cases h : n % d = 0
  · have z1 : (n % d == 0) = true := beq_iff_eq.2 h
    rw [tUp_dvd hd h]
    clear h
    go_enter Try.func55, Try.ntmps55
    go_wp2
    go_ret
    exact ⟨rfl, rfl⟩
  · have z1 : (n % d == 0) = false := beq_eq_false_iff_ne.2 h
    have q2 : n / d + 1 ≤ 18446744073709551615 := by
      by_cases hd1 : d = 1
      · subst hd1; omega
      · have hm := Int.ediv_mul_le n (show d ≠ 0 by omega)
        have : n / d * 2 ≤ n / d * d := Int.mul_le_mul_of_nonneg_left (by omega) q0
        omega
    rw [tUp_not hd h]
    clear h
    go_enter Try.func55, Try.ntmps55
    go_wp2
    go_ret
    exact ⟨rfl, rfl⟩
end Go.Proofs.Ytdnonhhphkmlmaa
