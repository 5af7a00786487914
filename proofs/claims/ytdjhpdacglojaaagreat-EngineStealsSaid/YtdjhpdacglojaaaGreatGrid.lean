/- Rows of structs, cell by cell. -/
import Derived.Test.YtdjhpdacglojaaaGreatLis
namespace Go.Proofs.YtdjhpdacglojaaaGreat
open Go.RowKit
set_option linter.unusedVariables false
/-- n things of m cells each. -/
def grid (n m : Nat) (V : Nat → Nat → Value) : List Value := (List.range (n * m)).map fun q => V (q / m) (q % m)
theorem grid_len (n m : Nat) (V : Nat → Nat → Value) : (grid n m V).length = n * m := by simp [grid]
theorem grid_at {n m j k : Nat} (V : Nat → Nat → Value) (hj : j < n) (hk : k < m) : (grid n m V)[j * m + k]? = some (V j k) := by
  have h : j * m + k < n * m := by
    have : (j + 1) * m ≤ n * m := Nat.mul_le_mul_right m (by omega)
    rw [Nat.add_mul] at this
    omega
  have hm : 0 < m := by omega
  have e1 : (j * m + k) / m = j := by rw [Nat.add_comm, Nat.mul_comm, Nat.add_mul_div_left _ _ hm, Nat.div_eq_of_lt hk, Nat.zero_add]
  have e2 : (j * m + k) % m = k := by rw [Nat.add_comm, Nat.mul_comm, Nat.add_mul_mod_self_left, Nat.mod_eq_of_lt hk]
  simp [grid, h, e1, e2]
theorem grid_like {n m : Nat} {V V' : Nat → Nat → Value} (h : ∀ j k, j < n → k < m → V j k = V' j k) : grid n m V = grid n m V' := by
  refine List.map_congr_left fun q hq => ?_
  have hq : q < n * m := by simpa using hq
  have hm : 0 < m := by
    rcases Nat.eq_zero_or_pos m with rfl | h
    · simp at hq
    · exact h
  exact h _ _ (Nat.div_lt_of_lt_mul (by rwa [Nat.mul_comm])) (Nat.mod_lt _ hm)
def upd2 (V : Nat → Nat → Value) (j k : Nat) (u : Value) : Nat → Nat → Value := fun j' k' => if j' = j ∧ k' = k then u else V j' k'
theorem grid_set {n m j k : Nat} (V : Nat → Nat → Value) (u : Value) (hj : j < n) (hk : k < m) : (grid n m V).set (j * m + k) u = grid n m (upd2 V j k u) := by
  apply List.ext_getElem?
  intro q
  by_cases hq : q < n * m
  · have hm : 0 < m := by omega
    have hqj : q / m < n := Nat.div_lt_of_lt_mul (by rwa [Nat.mul_comm])
    have hqk : q % m < m := Nat.mod_lt _ hm
    have e : q / m * m + q % m = q := by rw [Nat.mul_comm]; exact Nat.div_add_mod q m
    have g := grid_at (upd2 V j k u) hqj hqk
    rw [e] at g
    rw [g]
    by_cases he : q = j * m + k
    · subst he
      have e1 : (j * m + k) / m = j := by rw [Nat.add_comm, Nat.mul_comm, Nat.add_mul_div_left _ _ hm, Nat.div_eq_of_lt hk, Nat.zero_add]
      have e2 : (j * m + k) % m = k := by rw [Nat.add_comm, Nat.mul_comm, Nat.add_mul_mod_self_left, Nat.mod_eq_of_lt hk]
      rw [List.getElem?_set_self (by rw [grid_len]; exact hq), e1, e2]
      simp [upd2]
    · rw [List.getElem?_set_ne (Ne.symm he)]
      have g2 := grid_at V hqj hqk
      rw [e] at g2
      rw [g2]
      have hne : ¬ (q / m = j ∧ q % m = k) := fun ⟨h1, h2⟩ => he (by rw [← e, h1, h2])
      simp [upd2, hne]
  · rw [List.getElem?_eq_none (by simp [grid_len]; omega), List.getElem?_eq_none (by rw [grid_len]; omega)]
theorem grid_snoc (n m : Nat) (V : Nat → Nat → Value) (hm : 0 < m) : grid (n + 1) m V = grid n m V ++ (List.range m).map (V n) := by
  apply List.ext_getElem?
  intro q
  by_cases h1 : q < n * m
  · have hqj : q / m < n := Nat.div_lt_of_lt_mul (by rwa [Nat.mul_comm])
    have hqk : q % m < m := Nat.mod_lt _ hm
    have e : q / m * m + q % m = q := by rw [Nat.mul_comm]; exact Nat.div_add_mod q m
    rw [List.getElem?_append_left (by rw [grid_len]; exact h1), ← e, grid_at V (show q / m < n + 1 by omega) hqk, grid_at V hqj hqk]
  · rw [List.getElem?_append_right (by rw [grid_len]; omega), grid_len]
    by_cases h2 : q < (n + 1) * m
    · have hk : q - n * m < m := by rw [Nat.add_mul] at h2; omega
      have e : q = n * m + (q - n * m) := by omega
      rw [e, grid_at V (by omega) hk]
      simp [hk]
    · rw [List.getElem?_eq_none (by rw [grid_len]; omega), List.getElem?_eq_none (by simp; rw [Nat.add_mul] at h2; omega)]
end Go.Proofs.YtdjhpdacglojaaaGreat
