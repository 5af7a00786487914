/- Contracts of layer 1's functions. -/
import Derived.Test.YtaoioejgealciaaRows
import Derived.Test.YtaoioejgealciaaTickM
import Derived.WalkKit
import Derived.Lib.Hide
namespace Go.Proofs.Ytaoioejgealciaa
open Go.RowKit
theorem may_any (t : Int) (w : World) : Calls Try.prog 38 #[.int .u64 t] w fun e w' => e = .returned (.bool (decide (t < 4611686018427387904))) ∧ w = w' := by
  go_enter Try.func38, Try.ntmps38
  go_wp2
  go_ret
  exact ⟨rfl, rfl⟩
theorem isp_yes (d : Int) (w : World) (h : 1 ≤ d ∧ d ≤ 4611686018427387904) : Calls Try.prog 51 #[.int .u64 d] w fun e w' => e = .returned (.bool true) ∧ w = w' := by
  obtain ⟨h1, h2⟩ := h
  have h4 : decide (d ≤ 4611686018427387904) = true := decide_eq_true h2
  go_enter Try.func51, Try.ntmps51
  go_wp2
  go_ret
  exact ⟨rfl, rfl⟩
theorem isp_no (d : Int) (w : World) (h : ¬ (1 ≤ d ∧ d ≤ 4611686018427387904)) : Calls Try.prog 51 #[.int .u64 d] w fun e w' => e = .returned (.bool false) ∧ w = w' := by
  by_cases h1 : 1 ≤ d
  · have h4 : decide (d ≤ 4611686018427387904) = false := decide_eq_false (by omega)
    clear h
    go_enter Try.func51, Try.ntmps51
    go_wp2
    go_ret
    exact ⟨rfl, rfl⟩
  · go_enter Try.func51, Try.ntmps51
    go_wp2
    go_ret
    exact ⟨rfl, rfl⟩
theorem add_ok (t s : Int) (w : World) (h0 : 0 ≤ t) (h1 : 0 ≤ s) (h2 : s ≤ 4611686018427387904) (h3 : t + s < 4611686018427387904) : Calls Try.prog 47 #[.int .u64 t, .int .u64 s] w fun e w' => e = .returned (.tuple #[.int .u64 (t + s), .int .i64 0]) ∧ w = w' := by
  have d1 : decide (t < 4611686018427387904) = true := decide_eq_true (by omega)
  have d2 : decide (4611686018427387904 < s) = false := decide_eq_false (by omega)
  have d3 : decide (t + s < 4611686018427387904) = true := decide_eq_true h3
  go_enter Try.func47, Try.ntmps47
  go_wp2
  go_ret2
  exact ⟨rfl, rfl⟩
theorem add_no (t s : Int) (w : World) (h0 : 0 ≤ t) (h1 : 0 ≤ s) (h : ¬ (s ≤ 4611686018427387904 ∧ t + s < 4611686018427387904)) : Calls Try.prog 47 #[.int .u64 t, .int .u64 s] w fun e w' => e = .returned (.tuple #[.int .u64 0, .int .i64 2]) ∧ w = w' := by
  by_cases g1 : t < 4611686018427387904
  · have d1 : decide (t < 4611686018427387904) = true := decide_eq_true g1
    by_cases g2 : 4611686018427387904 < s
    · have d2 : decide (4611686018427387904 < s) = true := decide_eq_true g2
      clear h
      go_enter Try.func47, Try.ntmps47
      go_wp2
      go_ret2
      exact ⟨rfl, rfl⟩
    · have d2 : decide (4611686018427387904 < s) = false := decide_eq_false g2
      have d3 : decide (t + s < 4611686018427387904) = false := decide_eq_false (by omega)
      have d4 : t + s ≤ 9223372036854775807 := by omega
      clear h
      go_enter Try.func47, Try.ntmps47
      go_wp2
      go_ret2
      exact ⟨rfl, rfl⟩
  · have d1 : decide (t < 4611686018427387904) = false := decide_eq_false g1
    clear h
    go_enter Try.func47, Try.ntmps47
    go_wp2
    go_ret2
    exact ⟨rfl, rfl⟩
theorem window_hor (t p d : Int) (w : World) (h : ¬ (t < 4611686018427387904 ∧ p < 4611686018427387904)) : Calls Try.prog 43 #[.int .u64 t, .int .u64 p, .int .u64 d] w fun e w' => e = .returned (.tuple #[.int .u64 0, .int .u64 0, .int .i64 2]) ∧ w = w' := by
  by_cases h2 : t < 4611686018427387904
  · have d1 : decide (t < 4611686018427387904) = true := decide_eq_true h2
    have d2 : decide (p < 4611686018427387904) = false := decide_eq_false (by omega)
    clear h
    go_enter Try.func43, Try.ntmps43
    go_wp2
    go_ret3
    exact ⟨rfl, rfl⟩
  · have d1 : decide (t < 4611686018427387904) = false := decide_eq_false h2
    clear h
    go_enter Try.func43, Try.ntmps43
    go_wp2
    go_ret3
    exact ⟨rfl, rfl⟩
theorem window_arg (t p d : Int) (w : World) (ht : t < 4611686018427387904) (hp : p < 4611686018427387904) (h : ¬ (1 ≤ d ∧ d ≤ 4611686018427387904 ∧ p ≤ t)) : Calls Try.prog 43 #[.int .u64 t, .int .u64 p, .int .u64 d] w fun e w' => e = .returned (.tuple #[.int .u64 0, .int .u64 0, .int .i64 1]) ∧ w = w' := by
  have d1 : decide (t < 4611686018427387904) = true := decide_eq_true ht
  have d2 : decide (p < 4611686018427387904) = true := decide_eq_true hp
  by_cases h1 : 1 ≤ d ∧ d ≤ 4611686018427387904
  · have d3 : decide (t < p) = true := decide_eq_true (by omega)
    clear h
    go_enter Try.func43, Try.ntmps43
    go_wp2_with (first | (go_at_call 51; refine (isp_yes _ _ h1).mono ?_; rintro e w' ⟨rfl, rfl⟩) | go_in)
    go_ret3
    exact ⟨rfl, rfl⟩
  · clear h
    go_enter Try.func43, Try.ntmps43
    go_wp2_with (first | (go_at_call 51; refine (isp_no _ _ h1).mono ?_; rintro e w' ⟨rfl, rfl⟩) | go_in)
    go_ret3
    exact ⟨rfl, rfl⟩
theorem window_ok (t p d : Int) (w : World) (h0 : 0 ≤ p) (hp : p ≤ t) (ht : t < 4611686018427387904) (h1 : 1 ≤ d ∧ d ≤ 4611686018427387904) : Calls Try.prog 43 #[.int .u64 t, .int .u64 p, .int .u64 d] w fun e w' => e = .returned (.tuple #[.int .u64 ((t - p) / d), .int .u64 (p + (t - p) / d * d), .int .i64 0]) ∧ w = w' := by
  obtain ⟨m0, m1, m2, m3, _⟩ := win_le hp h1.1
  have d1 : decide (t < 4611686018427387904) = true := decide_eq_true ht
  have d2 : decide (p < 4611686018427387904) = true := decide_eq_true (by omega)
  have d3 : decide (t < p) = false := decide_eq_false (by omega)
  go_enter Try.func43, Try.ntmps43
  go_wp2_with (first | (go_at_call 51; refine (isp_yes _ _ h1).mono ?_; rintro e w' ⟨rfl, rfl⟩) | go_in)
  go_ret3
  exact ⟨rfl, rfl⟩
theorem next_hor (t p d : Int) (w : World) (h : ¬ (t < 4611686018427387904 ∧ p < 4611686018427387904)) : Calls Try.prog 49 #[.int .u64 t, .int .u64 p, .int .u64 d] w fun e w' => e = .returned (.tuple #[.int .u64 0, .int .i64 2]) ∧ w = w' := by
  by_cases h2 : t < 4611686018427387904
  · have d1 : decide (t < 4611686018427387904) = true := decide_eq_true h2
    have d2 : decide (p < 4611686018427387904) = false := decide_eq_false (by omega)
    clear h
    go_enter Try.func49, Try.ntmps49
    go_wp2
    go_ret2
    exact ⟨rfl, rfl⟩
  · have d1 : decide (t < 4611686018427387904) = false := decide_eq_false h2
    clear h
    go_enter Try.func49, Try.ntmps49
    go_wp2
    go_ret2
    exact ⟨rfl, rfl⟩
theorem next_arg (t p d : Int) (w : World) (ht : t < 4611686018427387904) (hp : p < 4611686018427387904) (h : ¬ (1 ≤ d ∧ d ≤ 4611686018427387904)) : Calls Try.prog 49 #[.int .u64 t, .int .u64 p, .int .u64 d] w fun e w' => e = .returned (.tuple #[.int .u64 0, .int .i64 1]) ∧ w = w' := by
  have d1 : decide (t < 4611686018427387904) = true := decide_eq_true ht
  have d2 : decide (p < 4611686018427387904) = true := decide_eq_true hp
  go_enter Try.func49, Try.ntmps49
  go_wp2_with (first | (go_at_call 51; refine (isp_no _ _ h).mono ?_; rintro e w' ⟨rfl, rfl⟩) | go_in)
  go_ret2
  exact ⟨rfl, rfl⟩
theorem next_pre (t p d : Int) (w : World) (hp : p < 4611686018427387904) (h : 1 ≤ d ∧ d ≤ 4611686018427387904) (ht : t < p) : Calls Try.prog 49 #[.int .u64 t, .int .u64 p, .int .u64 d] w fun e w' => e = .returned (.tuple #[.int .u64 p, .int .i64 0]) ∧ w = w' := by
  have d1 : decide (t < 4611686018427387904) = true := decide_eq_true (by omega)
  have d2 : decide (p < 4611686018427387904) = true := decide_eq_true hp
  have d3 : decide (t < p) = true := decide_eq_true ht
  go_enter Try.func49, Try.ntmps49
  go_wp2_with (first | (go_at_call 51; refine (isp_yes _ _ h).mono ?_; rintro e w' ⟨rfl, rfl⟩) | go_in)
  go_ret2
  exact ⟨rfl, rfl⟩
theorem next_ok (t p d : Int) (w : World) (h0 : 0 ≤ p) (hp : p ≤ t) (ht : t < 4611686018427387904) (h : 1 ≤ d ∧ d ≤ 4611686018427387904) (hl : p + (t - p) / d * d + d < 4611686018427387904) : Calls Try.prog 49 #[.int .u64 t, .int .u64 p, .int .u64 d] w fun e w' => e = .returned (.tuple #[.int .u64 (p + (t - p) / d * d + d), .int .i64 0]) ∧ w = w' := by
  obtain ⟨m0, m1, m2, m3, _⟩ := win_le hp h.1
  have d1 : decide (t < 4611686018427387904) = true := decide_eq_true ht
  have d2 : decide (p < 4611686018427387904) = true := decide_eq_true (by omega)
  have d3 : decide (t < p) = false := decide_eq_false (by omega)
  go_enter Try.func49, Try.ntmps49
  go_wp2_with (first | (go_at_call 51; refine (isp_yes _ _ h).mono ?_; rintro e w' ⟨rfl, rfl⟩) | (go_at_call 47; refine (add_ok _ _ _ (by omega) (by omega) (by omega) hl).mono ?_; rintro e w' ⟨rfl, rfl⟩) | go_in)
  go_ret2
  exact ⟨rfl, rfl⟩
theorem next_end (t p d : Int) (w : World) (h0 : 0 ≤ p) (hp : p ≤ t) (ht : t < 4611686018427387904) (h : 1 ≤ d ∧ d ≤ 4611686018427387904) (hl : 4611686018427387904 ≤ p + (t - p) / d * d + d) : Calls Try.prog 49 #[.int .u64 t, .int .u64 p, .int .u64 d] w fun e w' => e = .returned (.tuple #[.int .u64 0, .int .i64 2]) ∧ w = w' := by
  obtain ⟨m0, m1, m2, m3, _⟩ := win_le hp h.1
  have d1 : decide (t < 4611686018427387904) = true := decide_eq_true ht
  have d2 : decide (p < 4611686018427387904) = true := decide_eq_true (by omega)
  have d3 : decide (t < p) = false := decide_eq_false (by omega)
  go_enter Try.func49, Try.ntmps49
  go_wp2_with (first | (go_at_call 51; refine (isp_yes _ _ h).mono ?_; rintro e w' ⟨rfl, rfl⟩) | (go_at_call 47; refine (add_no _ _ _ (by omega) (by omega) (by omega)).mono ?_; rintro e w' ⟨rfl, rfl⟩) | go_in)
  go_ret2
  exact ⟨rfl, rfl⟩
end Go.Proofs.Ytaoioejgealciaa
