/- Plain numbers for layer 1: quotients rounded up, windows. No Go in here. -/
import Derived.RowKit
namespace Go.Proofs.YtdjhpdacglojaaaGreat
theorem ret_bool {a b : Bool} (h : a = b) : Ending.returned (.bool a) = .returned (.bool b) := by rw [h]
theorem ret_int {k : IntKind} {a b : Int} (h : a = b) : Ending.returned (.int k a) = .returned (.int k b) := by rw [h]
/-- A quotient rounded up. -/
def tUp (n d : Int) : Int := (n + d - 1) / d
theorem tUp_dvd {n d : Int} (hd : 1 ≤ d) (h : n % d = 0) : tUp n d = n / d := by
  unfold tUp
  have e := Int.mul_ediv_add_emod n d
  have : n + d - 1 = (d - 1) + d * (n / d) := by omega
  rw [this, Int.add_mul_ediv_left _ _ (by omega), Int.ediv_eq_zero_of_lt (by omega) (by omega)]; omega
theorem tUp_not {n d : Int} (hd : 1 ≤ d) (h : ¬ n % d = 0) : tUp n d = n / d + 1 := by
  unfold tUp
  have e := Int.mul_ediv_add_emod n d
  have h0 := Int.emod_nonneg n (show d ≠ 0 by omega)
  have h1 := Int.emod_lt_of_pos n (show 0 < d by omega)
  have : n + d - 1 = (n % d - 1) + d * (n / d + 1) := by rw [Int.mul_add]; omega
  rw [this, Int.add_mul_ediv_left _ _ (by omega), Int.ediv_eq_zero_of_lt (by omega) (by omega)]; omega
theorem tUp_nonneg {n d : Int} (hn : 0 ≤ n) (hd : 1 ≤ d) : 0 ≤ tUp n d := Int.ediv_nonneg (by omega) (by omega)
theorem tUp_le {n d : Int} (hn : 0 ≤ n) (hd : 1 ≤ d) : tUp n d ≤ n := by
  unfold tUp
  refine Int.le_of_lt_add_one (Int.ediv_lt_of_lt_mul (by omega) ?_)
  have : n + n * (d - 1) + d = (n + 1) * d := by rw [Int.mul_sub, Int.add_mul]; omega
  have h2 : 0 ≤ n * (d - 1) := Int.mul_nonneg hn (by omega)
  omega
/-- The two that fix it: it is enough, and one less is not. -/
theorem tUp_enough {n d : Int} (hd : 1 ≤ d) : n ≤ tUp n d * d := by
  unfold tUp
  have e := Int.mul_ediv_add_emod (n + d - 1) d
  have h1 := Int.emod_lt_of_pos (n + d - 1) (show 0 < d by omega)
  rw [Int.mul_comm] at e
  omega
theorem tUp_least {n d : Int} (hd : 1 ≤ d) : (tUp n d - 1) * d < n := by
  unfold tUp
  have e := Int.mul_ediv_add_emod (n + d - 1) d
  have h1 := Int.emod_nonneg (n + d - 1) (show d ≠ 0 by omega)
  rw [Int.mul_comm] at e
  rw [Int.sub_mul]
  omega
theorem tUp_mono {a b d : Int} (hd : 1 ≤ d) (h : a ≤ b) : tUp a d ≤ tUp b d := Int.ediv_le_ediv (by omega) (by omega)
theorem win_le {t p d : Int} (hp : p ≤ t) (hd : 1 ≤ d) : 0 ≤ (t - p) / d ∧ (t - p) / d ≤ t - p ∧ 0 ≤ (t - p) / d * d ∧ (t - p) / d * d ≤ t - p ∧ t - p < (t - p) / d * d + d := by
  have h0 : 0 ≤ (t - p) / d := Int.ediv_nonneg (by omega) (by omega)
  have e := Int.mul_ediv_add_emod (t - p) d
  have h1 := Int.emod_lt_of_pos (t - p) (show 0 < d by omega)
  rw [Int.mul_comm] at e
  exact ⟨h0, Int.ediv_le_self _ (by omega), Int.mul_nonneg h0 (by omega), Int.ediv_mul_le _ (by omega), by omega⟩
end Go.Proofs.YtdjhpdacglojaaaGreat
