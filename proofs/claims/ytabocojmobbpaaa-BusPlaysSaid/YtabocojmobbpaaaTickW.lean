/- Layer 1: the document's own windows. -/
import Derived.Test.YtabocojmobbpaaaTickRef
import Derived.Test.YtabocojmobbpaaaTickV
namespace Go.Proofs.Ytabocojmobbpaaa
open Go.RowKit
set_option linter.unusedVariables false
theorem rwin_eq (t p d : Int) (hd : 1 ≤ d) : (t - p - (t - p) % d) / d = (t - p) / d ∧ t - (t - p) % d = p + (t - p) / d * d := by
  have e := Int.mul_ediv_add_emod (t - p) d
  have e2 : t - p - (t - p) % d = d * ((t - p) / d) := by omega
  refine ⟨by rw [e2, Int.mul_ediv_cancel_left _ (by omega)], ?_⟩
  rw [Int.mul_comm] at e; omega
theorem rwindow_ok (t p d : Int) (w : World) (h0 : 0 ≤ p) (hp : p ≤ t) (ht : t < 4611686018427387904) (h1 : 1 ≤ d ∧ d ≤ 4611686018427387904) : Calls Try.prog 39 #[.int .u64 t, .int .u64 p, .int .u64 d] w fun e w' => e = .returned (.tuple #[.int .u64 ((t - p) / d), .int .u64 (p + (t - p) / d * d), .int .i64 0]) ∧ w = w' := by
  obtain ⟨e1, e2⟩ := rwin_eq t p d h1.1
  rw [← e2, ← e1]
  clear e1 e2
  have r0 : 0 ≤ (t - p) % d := Int.emod_nonneg _ (by omega)
  have r1 : (t - p) % d ≤ t - p := by have e := Int.mul_ediv_add_emod (t - p) d; have := Int.mul_nonneg (show 0 ≤ d by omega) (Int.ediv_nonneg (show 0 ≤ t - p by omega) (show 0 ≤ d by omega)); omega
  obtain ⟨g1, g2⟩ := h1
  have z1 : (d == 0) = false := beq_eq_false_iff_ne.2 (by omega)
  have z2 : decide (4611686018427387904 < d) = false := decide_eq_false (by omega)
  have z3 : decide (t < p) = false := decide_eq_false (by omega)
  have m0 : 0 ≤ (t - p - (t - p) % d) / d := Int.ediv_nonneg (by omega) (by omega)
  have m1 : (t - p - (t - p) % d) / d ≤ t - p - (t - p) % d := Int.ediv_le_self _ (by omega)
  go_enter Try.func39, Try.ntmps39
  go_wp2_with (first | (go_at_call 43; refine (rmay_yes _ _ (by omega)).mono ?_; rintro e w' ⟨rfl, rfl⟩) | go_in)
  go_ret3
  exact ⟨rfl, rfl⟩
theorem rwindow_arg (t p d : Int) (w : World) (h0 : 0 ≤ d) (ht : t < 4611686018427387904) (hp : p < 4611686018427387904) (h : ¬ (1 ≤ d ∧ d ≤ 4611686018427387904 ∧ p ≤ t)) : Calls Try.prog 39 #[.int .u64 t, .int .u64 p, .int .u64 d] w fun e w' => e = .returned (.tuple #[.int .u64 0, .int .u64 0, .int .i64 1]) ∧ w = w' := by
  by_cases h1 : 1 ≤ d
  · have z1 : (d == 0) = false := beq_eq_false_iff_ne.2 (by omega)
    by_cases h2 : 4611686018427387904 < d
    · have z2 : decide (4611686018427387904 < d) = true := decide_eq_true h2
      clear h
      go_enter Try.func39, Try.ntmps39
      go_wp2_with (first | (go_at_call 43; refine (rmay_yes _ _ (by omega)).mono ?_; rintro e w' ⟨rfl, rfl⟩) | go_in)
      go_ret3
      exact ⟨rfl, rfl⟩
    · have z2 : decide (4611686018427387904 < d) = false := decide_eq_false h2
      have z3 : decide (t < p) = true := decide_eq_true (by omega)
      clear h
      go_enter Try.func39, Try.ntmps39
      go_wp2_with (first | (go_at_call 43; refine (rmay_yes _ _ (by omega)).mono ?_; rintro e w' ⟨rfl, rfl⟩) | go_in)
      go_ret3
      exact ⟨rfl, rfl⟩
  · obtain rfl : d = 0 := by omega
    clear h
    go_enter Try.func39, Try.ntmps39
    go_wp2_with (first | (go_at_call 43; refine (rmay_yes _ _ (by omega)).mono ?_; rintro e w' ⟨rfl, rfl⟩) | go_in)
    go_ret3
    exact ⟨rfl, rfl⟩
theorem rwindow_hor (t p d : Int) (w : World) (h : ¬ (t < 4611686018427387904 ∧ p < 4611686018427387904)) : Calls Try.prog 39 #[.int .u64 t, .int .u64 p, .int .u64 d] w fun e w' => e = .returned (.tuple #[.int .u64 0, .int .u64 0, .int .i64 2]) ∧ w = w' := by
  by_cases h2 : t < 4611686018427387904
  · have d1 : decide (t ≤ 4611686018427387903) = true := decide_eq_true (by omega)
    have d2 : decide (p ≤ 4611686018427387903) = false := decide_eq_false (by omega)
    clear h
    go_enter Try.func39, Try.ntmps39
    go_wp2
    go_ret3
    exact ⟨rfl, rfl⟩
  · have d1 : decide (t ≤ 4611686018427387903) = false := decide_eq_false (by omega)
    clear h
    go_enter Try.func39, Try.ntmps39
    go_wp2
    go_ret3
    exact ⟨rfl, rfl⟩
theorem rwindow_v (t p d : Int) (w : World) (h0 : 0 ≤ p) (h1 : 0 ≤ d) : Calls Try.prog 39 #[.int .u64 t, .int .u64 p, .int .u64 d] w fun e w' => e = .returned (.tuple #[.int .u64 (winK t p d), .int .u64 (winA t p d), .int .i64 (winE t p d)]) ∧ w = w' := by
  unfold winK winA winE
  by_cases h : hok p t
  · by_cases k : wok p t d
    · simp only [if_pos h, if_pos k]; exact rwindow_ok t p d w h0 k.2.2 h.1 ⟨k.1, k.2.1⟩
    · simp only [if_pos h, if_neg k]; exact rwindow_arg t p d w h1 h.1 h.2 k
  · simp only [if_neg h]; exact rwindow_hor t p d w h
end Go.Proofs.Ytabocojmobbpaaa
