/- Contracts of layer 1's functions. -/
import Derived.Test.YtabocojmobbpaaaRows
import Derived.Test.YtabocojmobbpaaaTickM
import Derived.WalkKit
import Derived.Lib.Hide
namespace Go.Proofs.Ytabocojmobbpaaa
open Go.RowKit
theorem may_any (t : Int) (w : World) : Calls Try.prog 25 #[.int .u64 t] w fun e w' => e = .returned (.bool (decide (t < 4611686018427387904))) ∧ w = w' := by
  go_enter Try.func25, Try.ntmps25
  go_wp2
  go_ret
  exact ⟨rfl, rfl⟩
theorem isp_yes (d : Int) (w : World) (h : 1 ≤ d ∧ d ≤ 4611686018427387904) : Calls Try.prog 46 #[.int .u64 d] w fun e w' => e = .returned (.bool true) ∧ w = w' := by
  obtain ⟨h1, h2⟩ := h
  have h4 : decide (d ≤ 4611686018427387904) = true := decide_eq_true h2
  go_enter Try.func46, Try.ntmps46
  go_wp2
  go_ret
  exact ⟨rfl, rfl⟩
theorem isp_no (d : Int) (w : World) (h : ¬ (1 ≤ d ∧ d ≤ 4611686018427387904)) : Calls Try.prog 46 #[.int .u64 d] w fun e w' => e = .returned (.bool false) ∧ w = w' := by
  by_cases h1 : 1 ≤ d
  · have h4 : decide (d ≤ 4611686018427387904) = false := decide_eq_false (by omega)
    clear h
    go_enter Try.func46, Try.ntmps46
    go_wp2
    go_ret
    exact ⟨rfl, rfl⟩
  · go_enter Try.func46, Try.ntmps46
    go_wp2
    go_ret
    exact ⟨rfl, rfl⟩
theorem window_hor (t p d : Int) (w : World) (h : ¬ (t < 4611686018427387904 ∧ p < 4611686018427387904)) : Calls Try.prog 45 #[.int .u64 t, .int .u64 p, .int .u64 d] w fun e w' => e = .returned (.tuple #[.int .u64 0, .int .u64 0, .int .i64 2]) ∧ w = w' := by
  by_cases h2 : t < 4611686018427387904
  · have d1 : decide (t < 4611686018427387904) = true := decide_eq_true h2
    have d2 : decide (p < 4611686018427387904) = false := decide_eq_false (by omega)
    clear h
    go_enter Try.func45, Try.ntmps45
    go_wp2
    go_ret3
    exact ⟨rfl, rfl⟩
  · have d1 : decide (t < 4611686018427387904) = false := decide_eq_false h2
    clear h
    go_enter Try.func45, Try.ntmps45
    go_wp2
    go_ret3
    exact ⟨rfl, rfl⟩
theorem window_arg (t p d : Int) (w : World) (ht : t < 4611686018427387904) (hp : p < 4611686018427387904) (h : ¬ (1 ≤ d ∧ d ≤ 4611686018427387904 ∧ p ≤ t)) : Calls Try.prog 45 #[.int .u64 t, .int .u64 p, .int .u64 d] w fun e w' => e = .returned (.tuple #[.int .u64 0, .int .u64 0, .int .i64 1]) ∧ w = w' := by
  have d1 : decide (t < 4611686018427387904) = true := decide_eq_true ht
  have d2 : decide (p < 4611686018427387904) = true := decide_eq_true hp
  by_cases h1 : 1 ≤ d ∧ d ≤ 4611686018427387904
  · have d3 : decide (t < p) = true := decide_eq_true (by omega)
    clear h
    go_enter Try.func45, Try.ntmps45
    go_wp2_with (first | (go_at_call 46; refine (isp_yes _ _ h1).mono ?_; rintro e w' ⟨rfl, rfl⟩) | go_in)
    go_ret3
    exact ⟨rfl, rfl⟩
  · clear h
    go_enter Try.func45, Try.ntmps45
    go_wp2_with (first | (go_at_call 46; refine (isp_no _ _ h1).mono ?_; rintro e w' ⟨rfl, rfl⟩) | go_in)
    go_ret3
    exact ⟨rfl, rfl⟩
theorem window_ok (t p d : Int) (w : World) (h0 : 0 ≤ p) (hp : p ≤ t) (ht : t < 4611686018427387904) (h1 : 1 ≤ d ∧ d ≤ 4611686018427387904) : Calls Try.prog 45 #[.int .u64 t, .int .u64 p, .int .u64 d] w fun e w' => e = .returned (.tuple #[.int .u64 ((t - p) / d), .int .u64 (p + (t - p) / d * d), .int .i64 0]) ∧ w = w' := by
  obtain ⟨m0, m1, m2, m3, _⟩ := win_le hp h1.1
  have d1 : decide (t < 4611686018427387904) = true := decide_eq_true ht
  have d2 : decide (p < 4611686018427387904) = true := decide_eq_true (by omega)
  have d3 : decide (t < p) = false := decide_eq_false (by omega)
  go_enter Try.func45, Try.ntmps45
  go_wp2_with (first | (go_at_call 46; refine (isp_yes _ _ h1).mono ?_; rintro e w' ⟨rfl, rfl⟩) | go_in)
  go_ret3
  exact ⟨rfl, rfl⟩
end Go.Proofs.Ytabocojmobbpaaa
