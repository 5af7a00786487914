/- Contracts of layer 1's functions. -/
import Derived.Test.YtdemhhmceiaohaaRows
import Derived.Test.YtdemhhmceiaohaaTickM
import Derived.WalkKit
import Derived.Lib.Hide
namespace Go.Proofs.Ytdemhhmceiaohaa
open Go.RowKit
theorem may_any (t : Int) (w : World) : Calls Try.prog 54 #[.int .u64 t] w fun e w' => e = .returned (.bool (decide (t < 4611686018427387904))) ∧ w = w' := by
  go_enter Try.func54, Try.ntmps54
  go_wp2
  go_ret
  exact ⟨rfl, rfl⟩
theorem isp_yes (d : Int) (w : World) (h : 1 ≤ d ∧ d ≤ 4611686018427387904) : Calls Try.prog 91 #[.int .u64 d] w fun e w' => e = .returned (.bool true) ∧ w = w' := by
  obtain ⟨h1, h2⟩ := h
  have h4 : decide (d ≤ 4611686018427387904) = true := decide_eq_true h2
  go_enter Try.func91, Try.ntmps91
  go_wp2
  go_ret
  exact ⟨rfl, rfl⟩
theorem isp_no (d : Int) (w : World) (h : ¬ (1 ≤ d ∧ d ≤ 4611686018427387904)) : Calls Try.prog 91 #[.int .u64 d] w fun e w' => e = .returned (.bool false) ∧ w = w' := by
  by_cases h1 : 1 ≤ d
  · have h4 : decide (d ≤ 4611686018427387904) = false := decide_eq_false (by omega)
    clear h
    go_enter Try.func91, Try.ntmps91
    go_wp2
    go_ret
    exact ⟨rfl, rfl⟩
  · go_enter Try.func91, Try.ntmps91
    go_wp2
    go_ret
    exact ⟨rfl, rfl⟩
theorem add_ok (t s : Int) (w : World) (h0 : 0 ≤ t) (h1 : 0 ≤ s) (h2 : s ≤ 4611686018427387904) (h3 : t + s < 4611686018427387904) : Calls Try.prog 28 #[.int .u64 t, .int .u64 s] w fun e w' => e = .returned (.tuple #[.int .u64 (t + s), .int .i64 0]) ∧ w = w' := by
  have d1 : decide (t < 4611686018427387904) = true := decide_eq_true (by omega)
  have d2 : decide (4611686018427387904 < s) = false := decide_eq_false (by omega)
  have d3 : decide (t + s < 4611686018427387904) = true := decide_eq_true h3
  go_enter Try.func28, Try.ntmps28
  go_wp2
  go_ret2
  exact ⟨rfl, rfl⟩
theorem add_no (t s : Int) (w : World) (h0 : 0 ≤ t) (h1 : 0 ≤ s) (h : ¬ (s ≤ 4611686018427387904 ∧ t + s < 4611686018427387904)) : Calls Try.prog 28 #[.int .u64 t, .int .u64 s] w fun e w' => e = .returned (.tuple #[.int .u64 0, .int .i64 2]) ∧ w = w' := by
  by_cases g1 : t < 4611686018427387904
  · have d1 : decide (t < 4611686018427387904) = true := decide_eq_true g1
    by_cases g2 : 4611686018427387904 < s
    · have d2 : decide (4611686018427387904 < s) = true := decide_eq_true g2
      clear h
      go_enter Try.func28, Try.ntmps28
      go_wp2
      go_ret2
      exact ⟨rfl, rfl⟩
    · have d2 : decide (4611686018427387904 < s) = false := decide_eq_false g2
      have d3 : decide (t + s < 4611686018427387904) = false := decide_eq_false (by omega)
      have d4 : t + s ≤ 9223372036854775807 := by omega
      clear h
      go_enter Try.func28, Try.ntmps28
      go_wp2
      go_ret2
      exact ⟨rfl, rfl⟩
  · have d1 : decide (t < 4611686018427387904) = false := decide_eq_false g1
    clear h
    go_enter Try.func28, Try.ntmps28
    go_wp2
    go_ret2
    exact ⟨rfl, rfl⟩
theorem up_0 (n : Int) (w : World) : Calls Try.prog 63 #[.int .u64 n, .int .u64 0] w fun e w' => e = .returned (.int .u64 0) ∧ w = w' := by
  go_enter Try.func63, Try.ntmps63
  go_wp2
  go_ret
  exact ⟨rfl, rfl⟩
theorem up_any (n d : Int) (w : World) (hn : 0 ≤ n) (hn1 : n ≤ 18446744073709551615) (hd : 1 ≤ d) : Calls Try.prog 63 #[.int .u64 n, .int .u64 d] w fun e w' => e = .returned (.int .u64 (tUp n d)) ∧ w = w' := by
  have z0 : (d == 0) = false := beq_eq_false_iff_ne.2 (by omega)
  have q0 : 0 ≤ n / d := Int.ediv_nonneg (by omega) (by omega)
  have q1 : n / d ≤ n := Int.ediv_le_self _ (by omega)
  have r0 : 0 ≤ n % d := Int.emod_nonneg n (by omega)
  have r1 : n % d ≤ n := by have e := Int.mul_ediv_add_emod n d; have := Int.mul_nonneg (show 0 ≤ d by omega) q0; omega
  by_cases h : n % d = 0
  · have z1 : (n % d == 0) = true := beq_iff_eq.2 h
    rw [tUp_dvd hd h]
    clear h
    go_enter Try.func63, Try.ntmps63
    go_wp2
    go_ret
    exact ⟨rfl, rfl⟩
  · have z1 : (n % d == 0) = false := beq_eq_false_iff_ne.2 h
    have q2 : n / d + 1 ≤ 18446744073709551615 := by
      by_cases hd1 : d = 1
      · subst hd1; omega
      · have hm := Int.ediv_mul_le n (show d ≠ 0 by omega)
        have : n / d * 2 ≤ n / d * d := Int.mul_le_mul_of_nonneg_left (by omega) q0
        omega
    rw [tUp_not hd h]
    clear h
    go_enter Try.func63, Try.ntmps63
    go_wp2
    go_ret
    exact ⟨rfl, rfl⟩
theorem window_hor (t p d : Int) (w : World) (h : ¬ (t < 4611686018427387904 ∧ p < 4611686018427387904)) : Calls Try.prog 79 #[.int .u64 t, .int .u64 p, .int .u64 d] w fun e w' => e = .returned (.tuple #[.int .u64 0, .int .u64 0, .int .i64 2]) ∧ w = w' := by
  by_cases h2 : t < 4611686018427387904
  · have d1 : decide (t < 4611686018427387904) = true := decide_eq_true h2
    have d2 : decide (p < 4611686018427387904) = false := decide_eq_false (by omega)
    clear h
    go_enter Try.func79, Try.ntmps79
    go_wp2
    go_ret3
    exact ⟨rfl, rfl⟩
  · have d1 : decide (t < 4611686018427387904) = false := decide_eq_false h2
    clear h
    go_enter Try.func79, Try.ntmps79
    go_wp2
    go_ret3
    exact ⟨rfl, rfl⟩
theorem window_arg (t p d : Int) (w : World) (ht : t < 4611686018427387904) (hp : p < 4611686018427387904) (h : ¬ (1 ≤ d ∧ d ≤ 4611686018427387904 ∧ p ≤ t)) : Calls Try.prog 79 #[.int .u64 t, .int .u64 p, .int .u64 d] w fun e w' => e = .returned (.tuple #[.int .u64 0, .int .u64 0, .int .i64 1]) ∧ w = w' := by
  have d1 : decide (t < 4611686018427387904) = true := decide_eq_true ht
  have d2 : decide (p < 4611686018427387904) = true := decide_eq_true hp
  by_cases h1 : 1 ≤ d ∧ d ≤ 4611686018427387904
  · have d3 : decide (t < p) = true := decide_eq_true (by omega)
    clear h
    go_enter Try.func79, Try.ntmps79
    go_wp2_with (first | (go_at_call 91; refine (isp_yes _ _ h1).mono ?_; rintro e w' ⟨rfl, rfl⟩) | go_in)
    go_ret3
    exact ⟨rfl, rfl⟩
  · clear h
    go_enter Try.func79, Try.ntmps79
    go_wp2_with (first | (go_at_call 91; refine (isp_no _ _ h1).mono ?_; rintro e w' ⟨rfl, rfl⟩) | go_in)
    go_ret3
    exact ⟨rfl, rfl⟩
theorem window_ok (t p d : Int) (w : World) (h0 : 0 ≤ p) (hp : p ≤ t) (ht : t < 4611686018427387904) (h1 : 1 ≤ d ∧ d ≤ 4611686018427387904) : Calls Try.prog 79 #[.int .u64 t, .int .u64 p, .int .u64 d] w fun e w' => e = .returned (.tuple #[.int .u64 ((t - p) / d), .int .u64 (p + (t - p) / d * d), .int .i64 0]) ∧ w = w' := by
  obtain ⟨m0, m1, m2, m3, _⟩ := win_le hp h1.1
  have d1 : decide (t < 4611686018427387904) = true := decide_eq_true ht
  have d2 : decide (p < 4611686018427387904) = true := decide_eq_true (by omega)
  have d3 : decide (t < p) = false := decide_eq_false (by omega)
  go_enter Try.func79, Try.ntmps79
  go_wp2_with (first | (go_at_call 91; refine (isp_yes _ _ h1).mono ?_; rintro e w' ⟨rfl, rfl⟩) | go_in)
  go_ret3
  exact ⟨rfl, rfl⟩
theorem next_hor (t p d : Int) (w : World) (h : ¬ (t < 4611686018427387904 ∧ p < 4611686018427387904)) : Calls Try.prog 84 #[.int .u64 t, .int .u64 p, .int .u64 d] w fun e w' => e = .returned (.tuple #[.int .u64 0, .int .i64 2]) ∧ w = w' := by
  by_cases h2 : t < 4611686018427387904
  · have d1 : decide (t < 4611686018427387904) = true := decide_eq_true h2
    have d2 : decide (p < 4611686018427387904) = false := decide_eq_false (by omega)
    clear h
    go_enter Try.func84, Try.ntmps84
    go_wp2
    go_ret2
    exact ⟨rfl, rfl⟩
  · have d1 : decide (t < 4611686018427387904) = false := decide_eq_false h2
    clear h
    go_enter Try.func84, Try.ntmps84
    go_wp2
    go_ret2
    exact ⟨rfl, rfl⟩
theorem next_arg (t p d : Int) (w : World) (ht : t < 4611686018427387904) (hp : p < 4611686018427387904) (h : ¬ (1 ≤ d ∧ d ≤ 4611686018427387904)) : Calls Try.prog 84 #[.int .u64 t, .int .u64 p, .int .u64 d] w fun e w' => e = .returned (.tuple #[.int .u64 0, .int .i64 1]) ∧ w = w' := by
  have d1 : decide (t < 4611686018427387904) = true := decide_eq_true ht
  have d2 : decide (p < 4611686018427387904) = true := decide_eq_true hp
  go_enter Try.func84, Try.ntmps84
  go_wp2_with (first | (go_at_call 91; refine (isp_no _ _ h).mono ?_; rintro e w' ⟨rfl, rfl⟩) | go_in)
  go_ret2
  exact ⟨rfl, rfl⟩
theorem next_pre (t p d : Int) (w : World) (hp : p < 4611686018427387904) (h : 1 ≤ d ∧ d ≤ 4611686018427387904) (ht : t < p) : Calls Try.prog 84 #[.int .u64 t, .int .u64 p, .int .u64 d] w fun e w' => e = .returned (.tuple #[.int .u64 p, .int .i64 0]) ∧ w = w' := by
  have d1 : decide (t < 4611686018427387904) = true := decide_eq_true (by omega)
  have d2 : decide (p < 4611686018427387904) = true := decide_eq_true hp
  have d3 : decide (t < p) = true := decide_eq_true ht
  go_enter Try.func84, Try.ntmps84
  go_wp2_with (first | (go_at_call 91; refine (isp_yes _ _ h).mono ?_; rintro e w' ⟨rfl, rfl⟩) | go_in)
  go_ret2
  exact ⟨rfl, rfl⟩
theorem next_ok (t p d : Int) (w : World) (h0 : 0 ≤ p) (hp : p ≤ t) (ht : t < 4611686018427387904) (h : 1 ≤ d ∧ d ≤ 4611686018427387904) (hl : p + (t - p) / d * d + d < 4611686018427387904) : Calls Try.prog 84 #[.int .u64 t, .int .u64 p, .int .u64 d] w fun e w' => e = .returned (.tuple #[.int .u64 (p + (t - p) / d * d + d), .int .i64 0]) ∧ w = w' := by
  obtain ⟨m0, m1, m2, m3, _⟩ := win_le hp h.1
  have d1 : decide (t < 4611686018427387904) = true := decide_eq_true ht
  have d2 : decide (p < 4611686018427387904) = true := decide_eq_true (by omega)
  have d3 : decide (t < p) = false := decide_eq_false (by omega)
  go_enter Try.func84, Try.ntmps84
  go_wp2_with (first | (go_at_call 91; refine (isp_yes _ _ h).mono ?_; rintro e w' ⟨rfl, rfl⟩) | (go_at_call 28; refine (add_ok _ _ _ (by omega) (by omega) (by omega) hl).mono ?_; rintro e w' ⟨rfl, rfl⟩) | go_in)
  go_ret2
  exact ⟨rfl, rfl⟩
theorem next_end (t p d : Int) (w : World) (h0 : 0 ≤ p) (hp : p ≤ t) (ht : t < 4611686018427387904) (h : 1 ≤ d ∧ d ≤ 4611686018427387904) (hl : 4611686018427387904 ≤ p + (t - p) / d * d + d) : Calls Try.prog 84 #[.int .u64 t, .int .u64 p, .int .u64 d] w fun e w' => e = .returned (.tuple #[.int .u64 0, .int .i64 2]) ∧ w = w' := by
  obtain ⟨m0, m1, m2, m3, _⟩ := win_le hp h.1
  have d1 : decide (t < 4611686018427387904) = true := decide_eq_true ht
  have d2 : decide (p < 4611686018427387904) = true := decide_eq_true (by omega)
  have d3 : decide (t < p) = false := decide_eq_false (by omega)
  go_enter Try.func84, Try.ntmps84
  go_wp2_with (first | (go_at_call 91; refine (isp_yes _ _ h).mono ?_; rintro e w' ⟨rfl, rfl⟩) | (go_at_call 28; refine (add_no _ _ _ (by omega) (by omega) (by omega)).mono ?_; rintro e w' ⟨rfl, rfl⟩) | go_in)
  go_ret2
  exact ⟨rfl, rfl⟩
end Go.Proofs.Ytdemhhmceiaohaa
