/- Contracts of layer 1's functions. -/
import Derived.Test.YtfidjjeignljjaaRows
import Derived.Test.YtfidjjeignljjaaTickM
import Derived.WalkKit
import Derived.Lib.Hide
namespace Go.Proofs.Ytfidjjeignljjaa
open Go.RowKit
theorem may_any (t : Int) (w : World) : Calls Try.prog 23 #[.int .u64 t] w fun e w' => e = .returned (.bool (decide (t < 4611686018427387904))) ∧ w = w' := by
  go_enter Try.func23, Try.ntmps23
  go_wp2
  go_ret
  exact ⟨rfl, rfl⟩
theorem add_ok (t s : Int) (w : World) (h0 : 0 ≤ t) (h1 : 0 ≤ s) (h2 : s ≤ 4611686018427387904) (h3 : t + s < 4611686018427387904) : Calls Try.prog 22 #[.int .u64 t, .int .u64 s] w fun e w' => e = .returned (.tuple #[.int .u64 (t + s), .int .i64 0]) ∧ w = w' := by
  have d1 : decide (t < 4611686018427387904) = true := decide_eq_true (by omega)
  have d2 : decide (4611686018427387904 < s) = false := decide_eq_false (by omega)
  have d3 : decide (t + s < 4611686018427387904) = true := decide_eq_true h3
  go_enter Try.func22, Try.ntmps22
  go_wp2
  go_ret2
  exact ⟨rfl, rfl⟩
theorem add_no (t s : Int) (w : World) (h0 : 0 ≤ t) (h1 : 0 ≤ s) (h : ¬ (s ≤ 4611686018427387904 ∧ t + s < 4611686018427387904)) : Calls Try.prog 22 #[.int .u64 t, .int .u64 s] w fun e w' => e = .returned (.tuple #[.int .u64 0, .int .i64 2]) ∧ w = w' := by
  by_cases g1 : t < 4611686018427387904
  · have d1 : decide (t < 4611686018427387904) = true := decide_eq_true g1
    by_cases g2 : 4611686018427387904 < s
    · have d2 : decide (4611686018427387904 < s) = true := decide_eq_true g2
      clear h
      go_enter Try.func22, Try.ntmps22
      go_wp2
      go_ret2
      exact ⟨rfl, rfl⟩
    · have d2 : decide (4611686018427387904 < s) = false := decide_eq_false g2
      have d3 : decide (t + s < 4611686018427387904) = false := decide_eq_false (by omega)
      have d4 : t + s ≤ 9223372036854775807 := by omega
      clear h
      go_enter Try.func22, Try.ntmps22
      go_wp2
      go_ret2
      exact ⟨rfl, rfl⟩
  · have d1 : decide (t < 4611686018427387904) = false := decide_eq_false g1
    clear h
    go_enter Try.func22, Try.ntmps22
    go_wp2
    go_ret2
    exact ⟨rfl, rfl⟩
end Go.Proofs.Ytfidjjeignljjaa
