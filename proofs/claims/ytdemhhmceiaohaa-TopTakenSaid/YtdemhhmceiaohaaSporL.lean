/- Layer 14: a budget is made; when the next unit is there; the bound of a span; the document's fixed answers. -/
import Derived.Test.YtdemhhmceiaohaaSporC
namespace Go.Proofs.Ytdemhhmceiaohaa
open Go.RowKit
set_option linter.unusedVariables false
def SOK (B P : Int) : Prop := 1 ≤ B ∧ B ≤ 200 ∧ B ≤ P ∧ P ≤ 1099511627776
theorem smay_yes (B P : Int) (w : World) (h : SOK B P) :
    Calls Try.prog 53 #[.agg #[.int .i64 B, .int .u64 P]] w fun e w' => e = .returned (.bool true) ∧ Below w.heap.size w w' := by
  unfold SOK at h
  have d1 : decide (1 ≤ B) = true := decide_eq_true h.1
  have d2 : decide (B ≤ 200) = true := decide_eq_true h.2.1
  have d3 : decide (B ≤ P) = true := decide_eq_true h.2.2.1
  have d4 : decide (P ≤ 1099511627776) = true := decide_eq_true h.2.2.2
  have hw : IntKind.u64.wrap B = B := IntWalk.u64_in _ ⟨by omega, by omega⟩
  go_enter Try.func53, Try.ntmps53
  go_wp2
  go_ret
  exact ⟨rfl, (Below.refl _ _).alloc (Nat.le_refl _) _⟩
theorem smay_no (B P : Int) (w : World) (h : ¬ SOK B P) (h2 : P ≤ 18446744073709551615) :
    Calls Try.prog 53 #[.agg #[.int .i64 B, .int .u64 P]] w fun e w' => e = .returned (.bool false) ∧ Below w.heap.size w w' := by
  unfold SOK at h
  by_cases h1 : 1 ≤ B
  · have d1 : decide (1 ≤ B) = true := decide_eq_true h1
    by_cases h2 : B ≤ 200
    · have d2 : decide (B ≤ 200) = true := decide_eq_true h2
      have hw : IntKind.u64.wrap B = B := IntWalk.u64_in _ ⟨by omega, by omega⟩
      by_cases h3 : B ≤ P
      · have d3 : decide (B ≤ P) = true := decide_eq_true h3
        have d4 : decide (P ≤ 1099511627776) = false := decide_eq_false (by omega)
        clear h
        go_enter Try.func53, Try.ntmps53
        go_wp2
        go_ret
        exact ⟨rfl, (Below.refl _ _).alloc (Nat.le_refl _) _⟩
      · have d3 : decide (B ≤ P) = false := decide_eq_false h3
        clear h
        go_enter Try.func53, Try.ntmps53
        go_wp2
        go_ret
        exact ⟨rfl, (Below.refl _ _).alloc (Nat.le_refl _) _⟩
    · have d2 : decide (B ≤ 200) = false := decide_eq_false h2
      clear h
      go_enter Try.func53, Try.ntmps53
      go_wp2
      go_ret
      exact ⟨rfl, (Below.refl _ _).alloc (Nat.le_refl _) _⟩
  · have d1 : decide (1 ≤ B) = false := decide_eq_false h1
    clear h
    go_enter Try.func53, Try.ntmps53
    go_wp2
    go_ret
    exact ⟨rfl, (Below.refl _ _).alloc (Nat.le_refl _) _⟩
theorem new_ok (B P : Int) (w : World) (h : SOK B P) :
    Calls Try.prog 27 #[.agg #[.int .i64 B, .int .u64 P]] w fun r w' => ∃ b, w.heap.size ≤ b ∧ r = .returned (.tuple #[.pointer (some ⟨b, 0, none⟩), .int .i64 0]) ∧ Sb w' b B P 0 (.slice none 0 0) ∧ Below w.heap.size w w' := by
  go_enter Try.func27, Try.ntmps27
  go_wp2_with (go_at_call 53; refine (smay_yes B P _ h).mono ?_; rintro e w1 ⟨rfl, hw1⟩; have c0 := boxed hw1 0; have c1 := boxed hw1 1; simp at c0 c1)
  have hb := below_box hw1
  go_ret2
  exact ⟨w1.heap.size, hb.size, rfl, Blk.new _ _ _, hb.alloc hb.size _⟩
theorem new_arg (B P : Int) (w : World) (h : ¬ SOK B P) (h2 : P ≤ 18446744073709551615) :
    Calls Try.prog 27 #[.agg #[.int .i64 B, .int .u64 P]] w fun r w' => r = .returned (.tuple #[.pointer none, .int .i64 1]) ∧ Below w.heap.size w w' := by
  go_enter Try.func27, Try.ntmps27
  go_wp2_with (go_at_call 53; refine (smay_no B P _ h h2).mono ?_; rintro e w1 ⟨rfl, hw1⟩; have c0 := boxed hw1 0; have c1 := boxed hw1 1; simp at c0 c1)
  go_ret2
  exact ⟨rfl, below_box hw1⟩
/-- The bound of a span. -/
def smst (B P s : Int) : Int := if B * tUp s P < s then B * tUp s P else s
theorem smul_bd {B P s : Int} (h : SOK B P) (h0 : 0 ≤ s) (hs : s ≤ 1099511627776) : 0 ≤ tUp s P ∧ tUp s P ≤ s ∧ 0 ≤ B * tUp s P ∧ B * tUp s P ≤ 200 * 1099511627776 := by
  unfold SOK at h
  have hu := tUp_nonneg h0 (show 1 ≤ P by omega)
  have hu2 := tUp_le h0 (show 1 ≤ P by omega)
  refine ⟨hu, hu2, Int.mul_nonneg (by omega) hu, ?_⟩
  have h1 : B * tUp s P ≤ 200 * tUp s P := Int.mul_le_mul_of_nonneg_right h.2.1 hu
  omega
/-- Behind a budget's call the memory below the bound is as it was. -/
theorem two_below {B0 b : Nat} {o : Option Nat} {w0 w w' : World} (h : Below B0 w0 w) (ho : Two b o w w') (hb : B0 ≤ b) (hg : ∀ k, o = some k → B0 ≤ k) (hs : B0 ≤ w0.heap.size) : Below B0 w0 w' :=
  h.trans (ho.below hb hg (Nat.le_trans hs h.size))
theorem only_below {B b : Nat} {w0 w w' : World} (h : Below B w0 w) (ho : Only b w w') (hb : B ≤ b) (hs : B ≤ w0.heap.size) : Below B w0 w' :=
  h.trans (ho.below hb (Nat.le_trans hs h.size))
theorem Tm.own {w : World} {base : Nat} {v : Value} {xs : List Int} (h : Tm w base v xs) {g : Nat} (hg : v.ownBlock = some g) : base ≤ g := (Lst.block h hg).1
end Go.Proofs.Ytdemhhmceiaohaa
