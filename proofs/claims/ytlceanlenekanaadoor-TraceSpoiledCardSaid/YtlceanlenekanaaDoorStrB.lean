/- Numbers as rows of digits: read, and told. Plain theorems; nothing of one law. -/
import Derived.Laws.RangeString
namespace Go.Proofs.YtlceanlenekanaaDoor
set_option linter.unusedVariables false
def isDg (b : UInt8) : Bool := decide (48 ≤ b.toNat ∧ b.toNat ≤ 57)
def valF (n : Nat) (l : List UInt8) : Nat := l.foldl (fun n b => 10 * n + (b.toNat - 48)) n
def valB (l : List UInt8) : Nat := valF 0 l
theorem valF_snoc (n : Nat) (l : List UInt8) (b : UInt8) : valF n (l ++ [b]) = 10 * valF n l + (b.toNat - 48) := by unfold valF; rw [List.foldl_append]; rfl
/-- A row that is a number: digits alone, one to ten of them, no 0 ahead of others, and no greater than 2^31 - 1. -/
def mayN (l : List UInt8) : Bool := decide (1 ≤ l.length) && decide (l.length ≤ 10) && !(decide (1 < l.length) && decide (l.head? = some 48)) && l.all isDg && decide (valB l ≤ 2147483647)
def numB (l : List UInt8) : Nat := if mayN l then valB l else 0
/-- A number's digits. -/
def dg (n : Nat) : UInt8 := UInt8.ofNat (48 + n % 10)
theorem dg_nat (n : Nat) : (dg n).toNat = 48 + n % 10 := by
  unfold dg
  rw [UInt8.toNat_ofNat']
  omega
theorem dg_is (n : Nat) : isDg (dg n) = true := by unfold isDg; rw [dg_nat]; exact decide_eq_true ⟨by omega, by omega⟩
def digs (n : Nat) : List UInt8 := if h : n < 10 then [dg n] else digs (n / 10) ++ [dg n]
termination_by n
decreasing_by omega
theorem digs_small {n : Nat} (h : n < 10) : digs n = [dg n] := by rw [digs, dif_pos h]
theorem digs_big {n : Nat} (h : ¬ n < 10) : digs n = digs (n / 10) ++ [dg n] := by rw [digs, dif_neg h]
theorem digs_all (n : Nat) : ∀ b ∈ digs n, isDg b = true := by
  induction n using Nat.strongRecOn with
  | ind n ih =>
    intro b hb
    by_cases h : n < 10
    · rw [digs_small h] at hb; rw [List.mem_singleton.1 hb]; exact dg_is n
    · rw [digs_big h] at hb
      rcases List.mem_append.1 hb with hb | hb
      · exact ih (n / 10) (by omega) b hb
      · rw [List.mem_singleton.1 hb]; exact dg_is n
theorem digs_val (n : Nat) : valB (digs n) = n := by
  induction n using Nat.strongRecOn with
  | ind n ih =>
    by_cases h : n < 10
    · rw [digs_small h]; show 10 * 0 + ((dg n).toNat - 48) = n; rw [dg_nat]; omega
    · rw [digs_big h]
      show valF 0 _ = n
      rw [valF_snoc, show valF 0 (digs (n / 10)) = n / 10 from ih (n / 10) (by omega), dg_nat]; omega
theorem digs_len (n : Nat) : 1 ≤ (digs n).length := by
  by_cases h : n < 10
  · rw [digs_small h]; exact Nat.le_refl _
  · rw [digs_big h, List.length_append]; show 1 ≤ _ + 1; omega
theorem digs_max : ∀ (k n : Nat), n < 10 ^ (k + 1) → (digs n).length ≤ k + 1
  | 0, n, h => by rw [digs_small (by simpa using h)]; exact Nat.le_refl _
  | k + 1, n, h => by
    by_cases hn : n < 10
    · rw [digs_small hn]; show 1 ≤ _; omega
    · rw [digs_big hn, List.length_append]
      have := digs_max k (n / 10) (by rw [Nat.pow_succ] at h; omega)
      show _ + 1 ≤ _
      omega
theorem digs_head : ∀ (n : Nat), 10 ≤ n → (digs n).head? ≠ some 48 := by
  intro n
  induction n using Nat.strongRecOn with
  | ind n ih =>
    intro h
    rw [digs_big (by omega)]
    by_cases h2 : n / 10 < 10
    · rw [digs_small h2]
      intro e
      have e : dg (n / 10) = 48 := by simpa using e
      have := congrArg UInt8.toNat e
      rw [dg_nat] at this
      have : 48 + n / 10 % 10 = 48 := this
      omega
    · have := ih (n / 10) (by omega) (by omega)
      have hne : digs (n / 10) ≠ [] := fun e => by have := digs_len (n / 10); rw [e] at this; simp at this
      cases hd : digs (n / 10) with
      | nil => exact absurd hd hne
      | cons a t => rw [hd] at this; exact this
theorem head_one (n : Nat) (h : n < 10) : (digs n).length = 1 := by rw [digs_small h]; rfl
/-- A number is that of its digits, if it is one. -/
theorem mayN_digs (n : Nat) : mayN (digs n) = decide (n ≤ 2147483647) := by
  unfold mayN
  rw [digs_val]
  by_cases h : n ≤ 2147483647
  · have h1 := digs_len n
    have h2 := digs_max 9 n (by omega)
    have h3 : (digs n).all isDg = true := List.all_eq_true.2 (digs_all n)
    have h4 : (decide (1 < (digs n).length) && decide ((digs n).head? = some 48)) = false := by
      by_cases hn : n < 10
      · rw [head_one n hn]; rfl
      · rw [decide_eq_false (digs_head n (by omega)), Bool.and_false]
    rw [decide_eq_true h1, decide_eq_true h2, h3, h4, decide_eq_true h]; rfl
  · rw [decide_eq_false h, Bool.and_false]
theorem mayN_zero (l : List UInt8) (h : l ≠ []) : mayN (48 :: l) = false := by
  unfold mayN
  have : 1 < (48 :: l).length := by
    have := List.length_pos_iff.2 h
    rw [List.length_cons]; omega
  rw [decide_eq_true this]; simp
theorem mayN_bad {l : List UInt8} {b : UInt8} (hb : b ∈ l) (h : isDg b = false) : mayN l = false := by
  unfold mayN
  have : l.all isDg = false := by
    cases e : l.all isDg with
    | false => rfl
    | true => rw [List.all_eq_true.1 e b hb] at h; cases h
  rw [this]; simp
end Go.Proofs.YtlceanlenekanaaDoor
