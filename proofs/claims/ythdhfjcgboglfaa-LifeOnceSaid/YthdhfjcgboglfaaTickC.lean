/- Contracts of layer 1's functions. -/
import Derived.Test.YthdhfjcgboglfaaRows
import Derived.Test.YthdhfjcgboglfaaTickM
import Derived.WalkKit
import Derived.Lib.Hide
namespace Go.Proofs.Ythdhfjcgboglfaa
open Go.RowKit
theorem may_any (t : Int) (w : World) : Calls Try.prog 23 #[.int .u64 t] w fun e w' => e = .returned (.bool (decide (t < 4611686018427387904))) ∧ w = w' := by
  go_enter Try.func23, Try.ntmps23
  go_wp2
  go_ret
  exact ⟨rfl, rfl⟩
theorem left_0 (t u : Int) (w : World) (h : u ≤ t) : Calls Try.prog 24 #[.int .u64 t, .int .u64 u] w fun e w' => e = .returned (.int .u64 0) ∧ w = w' := by
  go_enter Try.func24, Try.ntmps24
  go_wp2
  go_ret
  exact ⟨rfl, rfl⟩
theorem left_pos (t u : Int) (w : World) (h0 : 0 ≤ t) (h : t < u) (h1 : u ≤ 18446744073709551615) : Calls Try.prog 24 #[.int .u64 t, .int .u64 u] w fun e w' => e = .returned (.int .u64 (u - t)) ∧ w = w' := by
  go_enter Try.func24, Try.ntmps24
  go_wp2
  go_ret
  exact ⟨rfl, rfl⟩
end Go.Proofs.Ythdhfjcgboglfaa
