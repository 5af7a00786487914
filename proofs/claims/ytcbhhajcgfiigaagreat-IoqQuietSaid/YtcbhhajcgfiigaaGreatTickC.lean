/- Contracts of layer 1's functions. -/
import Derived.Test.YtcbhhajcgfiigaaGreatRows
import Derived.Test.YtcbhhajcgfiigaaGreatTickM
import Derived.WalkKit
import Derived.Lib.Hide
namespace Go.Proofs.YtcbhhajcgfiigaaGreat
open Go.RowKit
theorem may_any (t : Int) (w : World) : Calls Tryz.prog 93 #[.int .u64 t] w fun e w' => e = .returned (.bool (decide (t < 4611686018427387904))) ∧ w = w' := by
  go_enter Tryz.func93, Tryz.ntmps93
  go_wp2
  go_ret
  exact ⟨rfl, rfl⟩
theorem left_0 (t u : Int) (w : World) (h : u ≤ t) : Calls Tryz.prog 94 #[.int .u64 t, .int .u64 u] w fun e w' => e = .returned (.int .u64 0) ∧ w = w' := by
  go_enter Tryz.func94, Tryz.ntmps94
  go_wp2
  go_ret
  exact ⟨rfl, rfl⟩
theorem left_pos (t u : Int) (w : World) (h0 : 0 ≤ t) (h : t < u) (h1 : u ≤ 18446744073709551615) : Calls Tryz.prog 94 #[.int .u64 t, .int .u64 u] w fun e w' => e = .returned (.int .u64 (u - t)) ∧ w = w' := by
  go_enter Tryz.func94, Tryz.ntmps94
  go_wp2
  go_ret
  exact ⟨rfl, rfl⟩
end Go.Proofs.YtcbhhajcgfiigaaGreat
