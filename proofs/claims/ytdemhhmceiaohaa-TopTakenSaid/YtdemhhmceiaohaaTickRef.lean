/- Contracts of the document's answers for layer 1. -/
import Derived.Test.YtdemhhmceiaohaaTickC
namespace Go.Proofs.Ytdemhhmceiaohaa
open Go.RowKit
theorem rup_0 (n : Int) (w : World) : Calls Try.prog 77 #[.int .u64 n, .int .u64 0] w fun e w' => e = .returned (.int .u64 0) ∧ w = w' := by
  go_enter Try.func77, Try.ntmps77
  go_wp2
  go_ret
  exact ⟨rfl, rfl⟩
theorem rup_any (n d : Int) (w : World) (hn : 0 ≤ n) (hn1 : n ≤ 18446744073709551615) (hd : 1 ≤ d) : Calls Try.prog 77 #[.int .u64 n, .int .u64 d] w fun e w' => e = .returned (.int .u64 (tUp n d)) ∧ w = w' := by
  have z0 : (d == 0) = false := beq_eq_false_iff_ne.2 (by omega)
  have q0 : 0 ≤ n / d := Int.ediv_nonneg (by omega) (by omega)
  have q1 : n / d ≤ n := Int.ediv_le_self _ (by omega)
  have q3 : 0 ≤ n / d * d := Int.mul_nonneg q0 (by omega)
  have q4 : n / d * d ≤ n := Int.ediv_mul_le _ (by omega)
  have e := Int.mul_ediv_add_emod n d
  have r0 : 0 ≤ n % d := Int.emod_nonneg n (by omega)
  rw [Int.mul_comm] at e
  by_cases h : n % d = 0
  · have z1 : ¬ n / d * d < n := by omega
    rw [tUp_dvd hd h]
    clear h e r0
    go_enter Try.func77, Try.ntmps77
    go_wp2
    go_ret
    exact ⟨rfl, rfl⟩
  · have z1 : n / d * d < n := by omega
    have q2 : n / d + 1 ≤ 18446744073709551615 := by
      by_cases hd1 : d = 1
      · subst hd1; omega
      · have hm := Int.ediv_mul_le n (show d ≠ 0 by omega)
        have : n / d * 2 ≤ n / d * d := Int.mul_le_mul_of_nonneg_left (by omega) q0
        omega
    rw [tUp_not hd h]
    clear h e r0
    go_enter Try.func77, Try.ntmps77
    go_wp2
    go_ret
    exact ⟨rfl, rfl⟩
end Go.Proofs.Ytdemhhmceiaohaa
