/- Layer 21: a blank, a name's numbers, a word's number. -/
import Derived.Test.YtlceanlenekanaaDoorRows
import Derived.Test.YtlceanlenekanaaDoorMany
import Derived.Test.YtlceanlenekanaaDoorItr
import Derived.Test.YtlceanlenekanaaDoorStrC
import Derived.Test.YtlceanlenekanaaDoorStrD
import Derived.WalkKit
import Derived.BigCall
import Derived.Lib.Hide
namespace Go.Proofs.YtlceanlenekanaaDoor
open Go.RowKit
set_option linter.unusedVariables false
set_option maxRecDepth 100000
set_option maxHeartbeats 4000000
theorem blank_o (r : Nat) (w : World) : Calls Tryd.prog 39 #[.int .i32 (r : Int)] w fun e w' => e = .returned (.bool (isBr r)) ∧ w = w' := by
  by_cases h1 : r = 32
  · subst h1
    go_enter Tryd.func39, Tryd.ntmps39
    go_wp2
    go_ret
    exact ⟨rfl, rfl⟩
  by_cases h2 : r = 9
  · subst h2
    go_enter Tryd.func39, Tryd.ntmps39
    go_wp2
    go_ret
    exact ⟨rfl, rfl⟩
  by_cases h3 : r = 10
  · subst h3
    go_enter Tryd.func39, Tryd.ntmps39
    go_wp2
    go_ret
    exact ⟨rfl, rfl⟩
  have z1 : ((r : Int) == 32) = false := beq_eq_false_iff_ne.2 (by omega)
  have z2 : ((r : Int) == 9) = false := beq_eq_false_iff_ne.2 (by omega)
  have z3 : ((r : Int) == 10) = false := beq_eq_false_iff_ne.2 (by omega)
  by_cases h4 : r = 13
  · subst h4
    go_enter Tryd.func39, Tryd.ntmps39
    go_wp2
    go_ret
    exact ⟨rfl, rfl⟩
  have z4 : ((r : Int) == 13) = false := beq_eq_false_iff_ne.2 (by omega)
  have e : isBr r = false := decide_eq_false (by omega)
  rw [e]
  clear e h1 h2 h3 h4
  go_enter Tryd.func39, Tryd.ntmps39
  go_wp2
  go_ret
  exact ⟨rfl, rfl⟩
/-- How many numbers a name has, as the function tells it. -/
def numsV (l : List UInt8) : Value := .tuple #[.int .i64 (((nm l).getD 0 : Nat) : Int), .bool (nm l).isSome]
theorem lit_ne {s : ByteArray} {l : List UInt8} (h : s.data.toList ≠ l) : (s.toList == l) = false := by
  rw [ByteArray.toList_eq]; exact beq_false_of_ne h
theorem lit_eq {s : ByteArray} {l : List UInt8} (h : s.data.toList = l) : s = ⟨l.toArray⟩ := by
  cases s with
  | mk d =>
    cases d with
    | mk m =>
      have h : m = l := h
      rw [h]
/-- A word's number, as the function tells it. -/
def numV (l : List UInt8) : Value := .tuple #[.int .i64 ((numB l : Nat) : Int), .bool (mayN l)]
theorem numV_no {l : List UInt8} (h : mayN l = false) : numV l = .tuple #[.int .i64 0, .bool false] := by unfold numV numB; rw [h]; rfl
theorem numV_yes {l : List UInt8} (h : mayN l = true) : numV l = .tuple #[.int .i64 ((valB l : Nat) : Int), .bool true] := by unfold numV numB; rw [h]; rfl
theorem valF_max : ∀ (l : List UInt8) (n : Nat), (∀ b ∈ l, isDg b = true) → valF n l < (n + 1) * 10 ^ l.length
  | [], n, _ => by simp [valF]
  | b :: l, n, h => by
    have hb := of_decide_eq_true (h b List.mem_cons_self)
    have := valF_max l (10 * n + (b.toNat - 48)) fun c hc => h c (List.mem_cons_of_mem _ hc)
    show valF (10 * n + (b.toNat - 48)) l < _
    rw [List.length_cons, Nat.pow_succ]
    have h1 : (10 * n + (b.toNat - 48) + 1) * 10 ^ l.length ≤ ((n + 1) * 10) * 10 ^ l.length := Nat.mul_le_mul_right _ (by omega)
    rw [show (n + 1) * (10 ^ l.length * 10) = (n + 1) * 10 * 10 ^ l.length by rw [Nat.mul_assoc, Nat.mul_comm 10]]
    omega
theorem valB_max {l : List UInt8} (h : l.length ≤ 10) (hd : ∀ b ∈ l, isDg b = true) : valB l < 10000000000 := by
  have := valF_max l 0 hd
  have h2 : 10 ^ l.length ≤ 10 ^ 10 := Nat.pow_le_pow_right (by decide) h
  unfold valB
  omega
theorem tk_dg {s : ByteArray} {pos : Nat} (h : (tk s pos).all isDg = true) : ∀ b ∈ tk s pos, isDg b = true := List.all_eq_true.1 h
theorem lst_len (s : ByteArray) : s.data.toList.length = s.size := Array.length_toList
theorem mayN_long {s : ByteArray} (h : ¬ (1 ≤ s.size ∧ s.size ≤ 10)) : mayN s.data.toList = false := by
  unfold mayN
  rw [lst_len]
  by_cases h1 : 1 ≤ s.size
  · rw [decide_eq_false (show ¬ s.size ≤ 10 by omega)]; simp
  · rw [decide_eq_false h1]; simp
theorem mayN_lead {s : ByteArray} (h : 1 < s.size) (hb : s.get! 0 = 48) : mayN s.data.toList = false := by
  rw [get_bang s (by omega)] at hb
  match hl : s.data.toList with
  | [] => rfl
  | b :: l =>
    have : b = 48 := by simpa [hl] using hb
    subst this
    exact mayN_zero l fun e => by
      have := lst_len s
      rw [hl, e] at this
      simp at this
      omega
/-- What is left of the tests, when the length fits and no 0 is ahead. -/
theorem mayN_rest {s : ByteArray} (h1 : 1 ≤ s.size) (h2 : s.size ≤ 10) (h3 : ¬ (1 < s.size ∧ s.get! 0 = 48)) : mayN s.data.toList = (s.data.toList.all isDg && decide (valB s.data.toList ≤ 2147483647)) := by
  unfold mayN
  rw [lst_len, decide_eq_true h1, decide_eq_true h2]
  have : (decide (1 < s.size) && decide (s.data.toList.head? = some 48)) = false := by
    by_cases h : 1 < s.size
    · have hg : s.get! 0 ≠ 48 := fun e => h3 ⟨h, e⟩
      rw [get_bang s (by omega)] at hg
      rw [decide_eq_true h, Bool.true_and]
      refine decide_eq_false fun e => hg ?_
      rw [List.head?_eq_getElem?] at e
      exact (List.getElem?_eq_some_iff.1 e).2
    · rw [decide_eq_false h]; rfl
  rw [this]; rfl
end Go.Proofs.YtlceanlenekanaaDoor
