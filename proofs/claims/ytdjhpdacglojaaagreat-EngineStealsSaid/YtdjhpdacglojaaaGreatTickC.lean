/- Contracts of layer 1's functions. -/
import Derived.Test.YtdjhpdacglojaaaGreatRows
import Derived.Test.YtdjhpdacglojaaaGreatTickM
import Derived.WalkKit
import Derived.Lib.Hide
namespace Go.Proofs.YtdjhpdacglojaaaGreat
open Go.RowKit
theorem may_any (t : Int) (w : World) : Calls Tryz.prog 102 #[.int .u64 t] w fun e w' => e = .returned (.bool (decide (t < 4611686018427387904))) ∧ w = w' := by
  go_enter Tryz.func102, Tryz.ntmps102
  go_wp2
  go_ret
  exact ⟨rfl, rfl⟩
theorem isp_yes (d : Int) (w : World) (h : 1 ≤ d ∧ d ≤ 4611686018427387904) : Calls Tryz.prog 209 #[.int .u64 d] w fun e w' => e = .returned (.bool true) ∧ w = w' := by
  obtain ⟨h1, h2⟩ := h
  have h4 : decide (d ≤ 4611686018427387904) = true := decide_eq_true h2
  go_enter Tryz.func209, Tryz.ntmps209
  go_wp2
  go_ret
  exact ⟨rfl, rfl⟩
theorem isp_no (d : Int) (w : World) (h : ¬ (1 ≤ d ∧ d ≤ 4611686018427387904)) : Calls Tryz.prog 209 #[.int .u64 d] w fun e w' => e = .returned (.bool false) ∧ w = w' := by
  by_cases h1 : 1 ≤ d
  · have h4 : decide (d ≤ 4611686018427387904) = false := decide_eq_false (by omega)
    clear h
    go_enter Tryz.func209, Tryz.ntmps209
    go_wp2
    go_ret
    exact ⟨rfl, rfl⟩
  · go_enter Tryz.func209, Tryz.ntmps209
    go_wp2
    go_ret
    exact ⟨rfl, rfl⟩
theorem left_0 (t u : Int) (w : World) (h : u ≤ t) : Calls Tryz.prog 103 #[.int .u64 t, .int .u64 u] w fun e w' => e = .returned (.int .u64 0) ∧ w = w' := by
  go_enter Tryz.func103, Tryz.ntmps103
  go_wp2
  go_ret
  exact ⟨rfl, rfl⟩
theorem left_pos (t u : Int) (w : World) (h0 : 0 ≤ t) (h : t < u) (h1 : u ≤ 18446744073709551615) : Calls Tryz.prog 103 #[.int .u64 t, .int .u64 u] w fun e w' => e = .returned (.int .u64 (u - t)) ∧ w = w' := by
  go_enter Tryz.func103, Tryz.ntmps103
  go_wp2
  go_ret
  exact ⟨rfl, rfl⟩
theorem window_hor (t p d : Int) (w : World) (h : ¬ (t < 4611686018427387904 ∧ p < 4611686018427387904)) : Calls Tryz.prog 194 #[.int .u64 t, .int .u64 p, .int .u64 d] w fun e w' => e = .returned (.tuple #[.int .u64 0, .int .u64 0, .int .i64 2]) ∧ w = w' := by
  by_cases h2 : t < 4611686018427387904
  · have d1 : decide (t < 4611686018427387904) = true := decide_eq_true h2
    have d2 : decide (p < 4611686018427387904) = false := decide_eq_false (by omega)
    clear h
    go_enter Tryz.func194, Tryz.ntmps194
    go_wp2
    go_ret3
    exact ⟨rfl, rfl⟩
  · have d1 : decide (t < 4611686018427387904) = false := decide_eq_false h2
    clear h
    go_enter Tryz.func194, Tryz.ntmps194
    go_wp2
    go_ret3
    exact ⟨rfl, rfl⟩
theorem window_arg (t p d : Int) (w : World) (ht : t < 4611686018427387904) (hp : p < 4611686018427387904) (h : ¬ (1 ≤ d ∧ d ≤ 4611686018427387904 ∧ p ≤ t)) : Calls Tryz.prog 194 #[.int .u64 t, .int .u64 p, .int .u64 d] w fun e w' => e = .returned (.tuple #[.int .u64 0, .int .u64 0, .int .i64 1]) ∧ w = w' := by
  have d1 : decide (t < 4611686018427387904) = true := decide_eq_true ht
  have d2 : decide (p < 4611686018427387904) = true := decide_eq_true hp
  by_cases h1 : 1 ≤ d ∧ d ≤ 4611686018427387904
  · have d3 : decide (t < p) = true := decide_eq_true (by omega)
    clear h
    go_enter Tryz.func194, Tryz.ntmps194
    go_wp2_with (first | (go_at_call 209; refine (isp_yes _ _ h1).mono ?_; rintro e w' ⟨rfl, rfl⟩) | go_in)
    go_ret3
    exact ⟨rfl, rfl⟩
  · clear h
    go_enter Tryz.func194, Tryz.ntmps194
    go_wp2_with (first | (go_at_call 209; refine (isp_no _ _ h1).mono ?_; rintro e w' ⟨rfl, rfl⟩) | go_in)
    go_ret3
    exact ⟨rfl, rfl⟩
theorem window_ok (t p d : Int) (w : World) (h0 : 0 ≤ p) (hp : p ≤ t) (ht : t < 4611686018427387904) (h1 : 1 ≤ d ∧ d ≤ 4611686018427387904) : Calls Tryz.prog 194 #[.int .u64 t, .int .u64 p, .int .u64 d] w fun e w' => e = .returned (.tuple #[.int .u64 ((t - p) / d), .int .u64 (p + (t - p) / d * d), .int .i64 0]) ∧ w = w' := by
  obtain ⟨m0, m1, m2, m3, _⟩ := win_le hp h1.1
  have d1 : decide (t < 4611686018427387904) = true := decide_eq_true ht
  have d2 : decide (p < 4611686018427387904) = true := decide_eq_true (by omega)
  have d3 : decide (t < p) = false := decide_eq_false (by omega)
  go_enter Tryz.func194, Tryz.ntmps194
  go_wp2_with (first | (go_at_call 209; refine (isp_yes _ _ h1).mono ?_; rintro e w' ⟨rfl, rfl⟩) | go_in)
  go_ret3
  exact ⟨rfl, rfl⟩
end Go.Proofs.YtdjhpdacglojaaaGreat
