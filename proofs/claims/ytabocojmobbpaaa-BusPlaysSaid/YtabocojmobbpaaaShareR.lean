/- Layer 5: the document's bound. -/
import Derived.Test.YtabocojmobbpaaaShareL
import Derived.Test.YtabocojmobbpaaaTickRef
namespace Go.Proofs.Ytabocojmobbpaaa
open Go.RowKit
set_option linter.unusedVariables false
theorem rsmay_yes (B P : Int) (w : World) (h : 1 ≤ B ∧ B ≤ P ∧ P ≤ 1099511627776) :
    Calls Try.prog 23 #[.agg #[.int .u64 B, .int .u64 P]] w fun e w' => e = .returned (.bool true) ∧ Below w.heap.size w w' := by
  have d1 : decide (0 < B) = true := decide_eq_true (by omega)
  have d2 : decide (P ≤ 1099511627776) = true := decide_eq_true h.2.2
  have d4 : decide (B ≤ P) = true := decide_eq_true h.2.1
  go_enter Try.func23, Try.ntmps23
  go_wp2
  go_ret
  exact ⟨rfl, (Below.refl _ _).alloc (Nat.le_refl _) _⟩
theorem rsmay_no (B P : Int) (w : World) (h : ¬ (1 ≤ B ∧ B ≤ P ∧ P ≤ 1099511627776)) :
    Calls Try.prog 23 #[.agg #[.int .u64 B, .int .u64 P]] w fun e w' => e = .returned (.bool false) ∧ Below w.heap.size w w' := by
  by_cases h1 : 0 < B
  · have d1 : decide (0 < B) = true := decide_eq_true h1
    by_cases h4 : B ≤ P
    · have d4 : decide (B ≤ P) = true := decide_eq_true h4
      have d2 : decide (P ≤ 1099511627776) = false := decide_eq_false (by omega)
      clear h
      go_enter Try.func23, Try.ntmps23
      go_wp2
      go_ret
      exact ⟨rfl, (Below.refl _ _).alloc (Nat.le_refl _) _⟩
    · have d4 : decide (B ≤ P) = false := decide_eq_false h4
      clear h
      go_enter Try.func23, Try.ntmps23
      go_wp2
      go_ret
      exact ⟨rfl, (Below.refl _ _).alloc (Nat.le_refl _) _⟩
  · have d1 : decide (0 < B) = false := decide_eq_false h1
    clear h
    go_enter Try.func23, Try.ntmps23
    go_wp2
    go_ret
    exact ⟨rfl, (Below.refl _ _).alloc (Nat.le_refl _) _⟩
theorem rmost_none (B P s : Int) (w : World) (h : ¬ (1 ≤ B ∧ B ≤ P ∧ P ≤ 1099511627776) ∨ 1099511627776 < s) :
    Calls Try.prog 20 #[.agg #[.int .u64 B, .int .u64 P], .int .u64 s] w fun r w' => r = .returned (.int .u64 0) ∧ Below w.heap.size w w' := by
  by_cases hg : 1 ≤ B ∧ B ≤ P ∧ P ≤ 1099511627776
  · have d1 : decide (1099511627776 < s) = true := decide_eq_true (by omega)
    clear h
    go_enter Try.func20, Try.ntmps20
    go_wp2_with (go_at_call 23; refine (rsmay_yes B P _ hg).mono ?_; rintro e w1 ⟨rfl, hw1⟩; have c0 := boxed hw1 0; have c1 := boxed hw1 1; simp at c0 c1)
    go_ret
    exact ⟨rfl, below_box hw1⟩
  · clear h
    go_enter Try.func20, Try.ntmps20
    go_wp2_with (go_at_call 23; refine (rsmay_no B P _ hg).mono ?_; rintro e w1 ⟨rfl, hw1⟩; have c0 := boxed hw1 0; have c1 := boxed hw1 1; simp at c0 c1)
    go_ret
    exact ⟨rfl, below_box hw1⟩
theorem rmost_any (B P s : Int) (w : World) (h : 1 ≤ B ∧ B ≤ P ∧ P ≤ 1099511627776) (h0 : 0 ≤ s) (hs : s ≤ 1099511627776) :
    Calls Try.prog 20 #[.agg #[.int .u64 B, .int .u64 P], .int .u64 s] w fun r w' => r = .returned (.int .u64 (mst B P s)) ∧ Below w.heap.size w w' := by
  have hu := tUp_nonneg h0 (show 1 ≤ P by omega)
  have hu2 := tUp_le h0 (show 1 ≤ P by omega)
  obtain ⟨m0, m1⟩ := mul_bd h h0
  have d1 : decide (1099511627776 < s) = false := decide_eq_false (by omega)
  have z0 : (B == 0) = false := beq_eq_false_iff_ne.2 (by omega)
  have q0 : 0 ≤ 1099511627776 / B := Int.ediv_nonneg (by omega) (by omega)
  have q1 : 1099511627776 / B ≤ 1099511627776 := Int.ediv_le_self _ (by omega)
  have UP := Lib.hid fun w => rup_any s P w h0 (by omega) (by omega)
  rw [Int.mul_comm] at m0 m1
  have hmst : mst B P s = if (tUp s P + 1) * B < s then (tUp s P + 1) * B else s := by unfold mst mn; rw [Int.mul_comm B]
  by_cases hbig : 1099511627776 / B + 2 < tUp s P + 1
  · have hs2 : ¬ (tUp s P + 1) * B < s := by
      have e := Int.mul_ediv_add_emod 1099511627776 B
      have r1 := Int.emod_lt_of_pos 1099511627776 (show 0 < B by omega)
      have : (1099511627776 / B + 2) * B ≤ (tUp s P + 1) * B := Int.mul_le_mul_of_nonneg_right (by omega) (by omega)
      rw [Int.add_mul, Int.mul_comm (1099511627776 / B)] at this
      omega
    rw [if_neg hs2] at hmst
    rw [hmst]
    clear hmst hs2
    generalize tUp s P = u at *
    have db : decide (1099511627776 / B + 2 < u + 1) = true := decide_eq_true hbig
    go_enter Try.func20, Try.ntmps20
    go_wp2_with (first | (go_at_call 23; refine (rsmay_yes B P _ h).mono ?_; rintro e w1 ⟨rfl, hw1⟩; have c0 := boxed hw1 0; have c1 := boxed hw1 1; simp at c0 c1) | (go_at_call 36; refine (UP.out _).mono ?_; rintro e w' ⟨rfl, rfl⟩))
    go_ret
    exact ⟨rfl, below_box hw1⟩
  · by_cases hlt : (tUp s P + 1) * B < s
    · rw [if_pos hlt] at hmst
      rw [hmst]
      clear hmst
      generalize tUp s P = u at *
      have db : decide (1099511627776 / B + 2 < u + 1) = false := decide_eq_false hbig
      have dl : decide ((u + 1) * B < s) = true := decide_eq_true hlt
      go_enter Try.func20, Try.ntmps20
      go_wp2_with (first | (go_at_call 23; refine (rsmay_yes B P _ h).mono ?_; rintro e w1 ⟨rfl, hw1⟩; have c0 := boxed hw1 0; have c1 := boxed hw1 1; simp at c0 c1) | (go_at_call 36; refine (UP.out _).mono ?_; rintro e w' ⟨rfl, rfl⟩))
      go_ret
      exact ⟨rfl, below_box hw1⟩
    · rw [if_neg hlt] at hmst
      rw [hmst]
      clear hmst
      generalize tUp s P = u at *
      have db : decide (1099511627776 / B + 2 < u + 1) = false := decide_eq_false hbig
      have dl : decide ((u + 1) * B < s) = false := decide_eq_false hlt
      go_enter Try.func20, Try.ntmps20
      go_wp2_with (first | (go_at_call 23; refine (rsmay_yes B P _ h).mono ?_; rintro e w1 ⟨rfl, hw1⟩; have c0 := boxed hw1 0; have c1 := boxed hw1 1; simp at c0 c1) | (go_at_call 36; refine (UP.out _).mono ?_; rintro e w' ⟨rfl, rfl⟩))
      go_ret
      exact ⟨rfl, below_box hw1⟩
end Go.Proofs.Ytabocojmobbpaaa
