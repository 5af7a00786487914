/- Layer 21: a blank, a name's numbers, a word's number. -/
import Derived.Test.YtgajcjacnnpfcaaDoorRows
import Derived.Test.YtgajcjacnnpfcaaDoorMany
import Derived.Test.YtgajcjacnnpfcaaDoorItr
import Derived.Test.YtgajcjacnnpfcaaDoorStrC
import Derived.Test.YtgajcjacnnpfcaaDoorStrD
import Derived.WalkKit
import Derived.BigCall
import Derived.Lib.Hide
namespace Go.Proofs.YtgajcjacnnpfcaaDoor
open Go.RowKit
set_option linter.unusedVariables false
set_option maxRecDepth 100000
set_option maxHeartbeats 4000000
theorem blank_o (r : Nat) (w : World) : Calls Tryd.prog 26 #[.int .i32 (r : Int)] w fun e w' => e = .returned (.bool (isBr r)) ∧ w = w' := by
  by_cases h1 : r = 32
  · subst h1
    go_enter Tryd.func26, Tryd.ntmps26
    go_wp2
    go_ret
    exact ⟨rfl, rfl⟩
  by_cases h2 : r = 9
  · subst h2
    go_enter Tryd.func26, Tryd.ntmps26
    go_wp2
    go_ret
    exact ⟨rfl, rfl⟩
  by_cases h3 : r = 10
  · subst h3
    go_enter Tryd.func26, Tryd.ntmps26
    go_wp2
    go_ret
    exact ⟨rfl, rfl⟩
  have z1 : ((r : Int) == 32) = false := beq_eq_false_iff_ne.2 (by omega)
  have z2 : ((r : Int) == 9) = false := beq_eq_false_iff_ne.2 (by omega)
  have z3 : ((r : Int) == 10) = false := beq_eq_false_iff_ne.2 (by omega)
  by_cases h4 : r = 13
  · subst h4
    go_enter Tryd.func26, Tryd.ntmps26
    go_wp2
    go_ret
    exact ⟨rfl, rfl⟩
  have z4 : ((r : Int) == 13) = false := beq_eq_false_iff_ne.2 (by omega)
  have e : isBr r = false := decide_eq_false (by omega)
  rw [e]
  clear e h1 h2 h3 h4
  go_enter Tryd.func26, Tryd.ntmps26
  go_wp2
  go_ret
  exact ⟨rfl, rfl⟩
/-- How many numbers a name has, as the function tells it. -/
def numsV (l : List UInt8) : Value := .tuple #[.int .i64 (((nm l).getD 0 : Nat) : Int), .bool (nm l).isSome]
theorem lit_ne {s : ByteArray} {l : List UInt8} (h : s.data.toList ≠ l) : (s.toList == l) = false := by
  rw [ByteArray.toList_eq]; exact beq_false_of_ne h
theorem lit_eq {s : ByteArray} {l : List UInt8} (h : s.data.toList = l) : s = ⟨l.toArray⟩ := by
  cases s with
  | mk d =>
    cases d with
    | mk m =>
      have h : m = l := h
      rw [h]
theorem nums_o (s : ByteArray) (w : World) : Calls Tryd.prog 13 #[.string s] w fun e w' => e = .returned (numsV s.data.toList) ∧ w = w' := by
  by_cases h0 : s.data.toList = [115, 116, 97, 114, 116]
  · rw [h0]
    obtain rfl := lit_eq h0
    clear h0
    go_enter Tryd.func13, Tryd.ntmps13
    go_wp2
    go_ret2
    exact ⟨rfl, rfl⟩
  have z0 := lit_ne h0
  by_cases h1 : s.data.toList = [116, 97, 107, 101]
  · rw [h1]
    obtain rfl := lit_eq h1
    clear h1
    go_enter Tryd.func13, Tryd.ntmps13
    go_wp2
    go_ret2
    exact ⟨rfl, rfl⟩
  have z1 := lit_ne h1
  by_cases h2 : s.data.toList = [114, 101, 97, 112]
  · rw [h2]
    obtain rfl := lit_eq h2
    clear h2
    go_enter Tryd.func13, Tryd.ntmps13
    go_wp2
    go_ret2
    exact ⟨rfl, rfl⟩
  have z2 := lit_ne h2
  by_cases h3 : s.data.toList = [102, 114, 101, 101]
  · rw [h3]
    obtain rfl := lit_eq h3
    clear h3
    go_enter Tryd.func13, Tryd.ntmps13
    go_wp2
    go_ret2
    exact ⟨rfl, rfl⟩
  have z3 := lit_ne h3
  by_cases h4 : s.data.toList = [110, 111, 119]
  · rw [h4]
    obtain rfl := lit_eq h4
    clear h4
    go_enter Tryd.func13, Tryd.ntmps13
    go_wp2
    go_ret2
    exact ⟨rfl, rfl⟩
  have z4 := lit_ne h4
  by_cases h5 : s.data.toList = [116, 105, 99, 107]
  · rw [h5]
    obtain rfl := lit_eq h5
    clear h5
    go_enter Tryd.func13, Tryd.ntmps13
    go_wp2
    go_ret2
    exact ⟨rfl, rfl⟩
  have z5 := lit_ne h5
  by_cases h6 : s.data.toList = [114, 97, 105, 115, 101]
  · rw [h6]
    obtain rfl := lit_eq h6
    clear h6
    go_enter Tryd.func13, Tryd.ntmps13
    go_wp2
    go_ret2
    exact ⟨rfl, rfl⟩
  have z6 := lit_ne h6
  by_cases h7 : s.data.toList = [109, 97, 115, 107]
  · rw [h7]
    obtain rfl := lit_eq h7
    clear h7
    go_enter Tryd.func13, Tryd.ntmps13
    go_wp2
    go_ret2
    exact ⟨rfl, rfl⟩
  have z7 := lit_ne h7
  by_cases h8 : s.data.toList = [117, 110, 109, 97, 115, 107]
  · rw [h8]
    obtain rfl := lit_eq h8
    clear h8
    go_enter Tryd.func13, Tryd.ntmps13
    go_wp2
    go_ret2
    exact ⟨rfl, rfl⟩
  have z8 := lit_ne h8
  by_cases h9 : s.data.toList = [103, 101, 116]
  · rw [h9]
    obtain rfl := lit_eq h9
    clear h9
    go_enter Tryd.func13, Tryd.ntmps13
    go_wp2
    go_ret2
    exact ⟨rfl, rfl⟩
  have z9 := lit_ne h9
  by_cases h10 : s.data.toList = [115, 104, 97, 114, 101]
  · rw [h10]
    obtain rfl := lit_eq h10
    clear h10
    go_enter Tryd.func13, Tryd.ntmps13
    go_wp2
    go_ret2
    exact ⟨rfl, rfl⟩
  have z10 := lit_ne h10
  by_cases h11 : s.data.toList = [100, 114, 111, 112]
  · rw [h11]
    obtain rfl := lit_eq h11
    clear h11
    go_enter Tryd.func13, Tryd.ntmps13
    go_wp2
    go_ret2
    exact ⟨rfl, rfl⟩
  have z11 := lit_ne h11
  by_cases h12 : s.data.toList = [99, 97, 110, 99, 101, 108]
  · rw [h12]
    obtain rfl := lit_eq h12
    clear h12
    go_enter Tryd.func13, Tryd.ntmps13
    go_wp2
    go_ret2
    exact ⟨rfl, rfl⟩
  have z12 := lit_ne h12
  by_cases h13 : s.data.toList = [114, 101, 108, 101, 97, 115, 101]
  · rw [h13]
    obtain rfl := lit_eq h13
    clear h13
    go_enter Tryd.func13, Tryd.ntmps13
    go_wp2
    go_ret2
    exact ⟨rfl, rfl⟩
  have z13 := lit_ne h13
  by_cases h14 : s.data.toList = [119, 97, 107, 101]
  · rw [h14]
    obtain rfl := lit_eq h14
    clear h14
    go_enter Tryd.func13, Tryd.ntmps13
    go_wp2
    go_ret2
    exact ⟨rfl, rfl⟩
  have z14 := lit_ne h14
  by_cases h15 : s.data.toList = [102, 105, 110, 105, 115, 104]
  · rw [h15]
    obtain rfl := lit_eq h15
    clear h15
    go_enter Tryd.func13, Tryd.ntmps13
    go_wp2
    go_ret2
    exact ⟨rfl, rfl⟩
  have z15 := lit_ne h15
  by_cases h16 : s.data.toList = [115, 117, 98, 109, 105, 116]
  · rw [h16]
    obtain rfl := lit_eq h16
    clear h16
    go_enter Tryd.func13, Tryd.ntmps13
    go_wp2
    go_ret2
    exact ⟨rfl, rfl⟩
  have z16 := lit_ne h16
  have e : numsV s.data.toList = .tuple #[.int .i64 0, .bool false] := by
    have : nm s.data.toList = none := by
      unfold nm nmS
      simp only [List.lookup_cons, List.lookup_nil, beq_false_of_ne h0, beq_false_of_ne h1, beq_false_of_ne h2, beq_false_of_ne h3, beq_false_of_ne h4, beq_false_of_ne h5, beq_false_of_ne h6, beq_false_of_ne h7, beq_false_of_ne h8, beq_false_of_ne h9, beq_false_of_ne h10, beq_false_of_ne h11, beq_false_of_ne h12, beq_false_of_ne h13, beq_false_of_ne h14, beq_false_of_ne h15, beq_false_of_ne h16]
    unfold numsV
    rw [this]; rfl
  rw [e]
  clear e h0 h1 h2 h3 h4 h5 h6 h7 h8 h9 h10 h11 h12 h13 h14 h15 h16
  go_enter Tryd.func13, Tryd.ntmps13
  go_wp2
  go_ret2
  exact ⟨rfl, rfl⟩
/-- A word's number, as the function tells it. -/
def numV (l : List UInt8) : Value := .tuple #[.int .i64 ((numB l : Nat) : Int), .bool (mayN l)]
theorem numV_no {l : List UInt8} (h : mayN l = false) : numV l = .tuple #[.int .i64 0, .bool false] := by unfold numV numB; rw [h]; rfl
theorem numV_yes {l : List UInt8} (h : mayN l = true) : numV l = .tuple #[.int .i64 ((valB l : Nat) : Int), .bool true] := by unfold numV numB; rw [h]; rfl
theorem valF_max : ∀ (l : List UInt8) (n : Nat), (∀ b ∈ l, isDg b = true) → valF n l < (n + 1) * 10 ^ l.length
  | [], n, _ => by simp [valF]
  | b :: l, n, h => by
    have hb := of_decide_eq_true (h b List.mem_cons_self)
    have := valF_max l (10 * n + (b.toNat - 48)) fun c hc => h c (List.mem_cons_of_mem _ hc)
    show valF (10 * n + (b.toNat - 48)) l < _
    rw [List.length_cons, Nat.pow_succ]
    have h1 : (10 * n + (b.toNat - 48) + 1) * 10 ^ l.length ≤ ((n + 1) * 10) * 10 ^ l.length := Nat.mul_le_mul_right _ (by omega)
    rw [show (n + 1) * (10 ^ l.length * 10) = (n + 1) * 10 * 10 ^ l.length by rw [Nat.mul_assoc, Nat.mul_comm 10]]
    omega
theorem valB_max {l : List UInt8} (h : l.length ≤ 10) (hd : ∀ b ∈ l, isDg b = true) : valB l < 10000000000 := by
  have := valF_max l 0 hd
  have h2 : 10 ^ l.length ≤ 10 ^ 10 := Nat.pow_le_pow_right (by decide) h
  unfold valB
  omega
theorem tk_dg {s : ByteArray} {pos : Nat} (h : (tk s pos).all isDg = true) : ∀ b ∈ tk s pos, isDg b = true := List.all_eq_true.1 h
theorem lst_len (s : ByteArray) : s.data.toList.length = s.size := Array.length_toList
theorem mayN_long {s : ByteArray} (h : ¬ (1 ≤ s.size ∧ s.size ≤ 10)) : mayN s.data.toList = false := by
  unfold mayN
  rw [lst_len]
  by_cases h1 : 1 ≤ s.size
  · rw [decide_eq_false (show ¬ s.size ≤ 10 by omega)]; simp
  · rw [decide_eq_false h1]; simp
theorem mayN_lead {s : ByteArray} (h : 1 < s.size) (hb : s.get! 0 = 48) : mayN s.data.toList = false := by
  rw [get_bang s (by omega)] at hb
  match hl : s.data.toList with
  | [] => rfl
  | b :: l =>
    have : b = 48 := by simpa [hl] using hb
    subst this
    exact mayN_zero l fun e => by
      have := lst_len s
      rw [hl, e] at this
      simp at this
      omega
/-- What is left of the tests, when the length fits and no 0 is ahead. -/
theorem mayN_rest {s : ByteArray} (h1 : 1 ≤ s.size) (h2 : s.size ≤ 10) (h3 : ¬ (1 < s.size ∧ s.get! 0 = 48)) : mayN s.data.toList = (s.data.toList.all isDg && decide (valB s.data.toList ≤ 2147483647)) := by
  unfold mayN
  rw [lst_len, decide_eq_true h1, decide_eq_true h2]
  have : (decide (1 < s.size) && decide (s.data.toList.head? = some 48)) = false := by
    by_cases h : 1 < s.size
    · have hg : s.get! 0 ≠ 48 := fun e => h3 ⟨h, e⟩
      rw [get_bang s (by omega)] at hg
      rw [decide_eq_true h, Bool.true_and]
      refine decide_eq_false fun e => hg ?_
      rw [List.head?_eq_getElem?] at e
      exact (List.getElem?_eq_some_iff.1 e).2
    · rw [decide_eq_false h]; rfl
  rw [this]; rfl
end Go.Proofs.YtgajcjacnnpfcaaDoor
