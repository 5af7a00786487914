/- Layer 12: a bucket's contracts with their answers given; the document's fixed answers. -/
import Derived.Test.YtllkhelklgdjeaaBuckC
namespace Go.Proofs.Ytllkhelklgdjeaa
open Go.RowKit
set_option linter.unusedVariables false
theorem has_g (b : Nat) (D E N T now v : Int) (w : World) (hb : Bk w b D E N T) (ho : BkOK D E N T) (h1 : N ≤ now) (h2 : now < 4611686018427387904) (hv : tk D E N T now = v) :
    Calls Try.prog 11 #[.pointer (some ⟨b, 0, none⟩), .int .u64 now] w fun e w' => e = .returned (.tuple #[.int .i64 v, .int .i64 0]) ∧ Bk w' b D E now v ∧ Only b w w' := by
  subst hv; exact has_ok b D E N T now w hb ho h1 h2
theorem take_y (b : Nat) (D E N T now v : Int) (w : World) (hb : Bk w b D E N T) (ho : BkOK D E N T) (h1 : N ≤ now) (h2 : now < 4611686018427387904) (hv : tk D E N T now = v + 1) (h0 : 0 ≤ v) :
    Calls Try.prog 10 #[.pointer (some ⟨b, 0, none⟩), .int .u64 now] w fun e w' => e = .returned (.tuple #[.bool true, .int .i64 0]) ∧ Bk w' b D E now v ∧ Only b w w' := by
  obtain rfl : v = tk D E N T now - 1 := by omega
  exact take_yes b D E N T now w hb ho h1 h2 (by omega)
/-- Below the bucket's block nothing turns. -/
theorem below_only {B b : Nat} {w0 w w' : World} (h : Below B w0 w) (ho : Only b w w') (hb : B ≤ b) (hs : B ≤ w0.heap.size) : Below B w0 w' :=
  h.trans (ho.below hb (Nat.le_trans hs h.size))
theorem most_any (d e s : Int) (w : World) (h : 1 ≤ d ∧ d ≤ 1000 ∧ 1 ≤ e ∧ e ≤ 1099511627776) (h0 : 0 ≤ s) (hs : s ≤ 1099511627776) :
    Calls Try.prog 12 #[.int .i64 d, .int .u64 e, .int .u64 s] w fun r w' => r = .returned (.int .u64 (d + s / e + 1)) ∧ w = w' := by
  have q0 : 0 ≤ s / e := Int.ediv_nonneg (by omega) (by omega)
  have q1 : s / e ≤ s := Int.ediv_le_self _ (by omega)
  have z0 : (e == 0) = false := beq_eq_false_iff_ne.2 (by omega)
  obtain ⟨h1, h2, h3, h4⟩ := id h
  go_enter Try.func12, Try.ntmps12
  go_wp2_with (go_at_call 14; refine (may_yes _ _ _ h).mono ?_; rintro r w' ⟨rfl, rfl⟩)
  go_ret
  exact ⟨rfl, rfl⟩
theorem most_none (d e s : Int) (w : World) (h : ¬ (1 ≤ d ∧ d ≤ 1000 ∧ 1 ≤ e ∧ e ≤ 1099511627776) ∨ 1099511627776 < s) :
    Calls Try.prog 12 #[.int .i64 d, .int .u64 e, .int .u64 s] w fun r w' => r = .returned (.int .u64 0) ∧ w = w' := by
  by_cases g : 1 ≤ d ∧ d ≤ 1000 ∧ 1 ≤ e ∧ e ≤ 1099511627776
  · have hs : 1099511627776 < s := by omega
    clear h
    go_enter Try.func12, Try.ntmps12
    go_wp2_with (go_at_call 14; refine (may_yes _ _ _ g).mono ?_; rintro r w' ⟨rfl, rfl⟩)
    go_ret
    exact ⟨rfl, rfl⟩
  · clear h
    go_enter Try.func12, Try.ntmps12
    go_wp2_with (go_at_call 14; refine (may_no _ _ _ g).mono ?_; rintro r w' ⟨rfl, rfl⟩)
    go_ret
    exact ⟨rfl, rfl⟩
theorem awake_any (w : World) : Calls Try.prog 8 #[] w fun e w' => e = .returned (.bool true) ∧ Below w.heap.size w w' := by
  go_enter Try.func8, Try.ntmps8
  go_wp2_with fail
  refine (new_ok 2 10 _ (by omega)).mono ?_
  rintro e w1 ⟨rfl, hb1, hz, hw1⟩
  go_wp2_with fail
  refine (take_y _ 2 10 0 2 1 1 _ hb1 (by unfold BkOK; omega) (by omega) (by omega) (by decide) (by omega)).mono ?_
  rintro e w2 ⟨rfl, hb2, ho2⟩
  have hw2 := below_only hw1 ho2 (Nat.le_refl _) (Nat.le_refl _)
  go_wp2_with fail
  refine (take_y _ 2 10 1 1 1 0 _ hb2 (by unfold BkOK; omega) (by omega) (by omega) (by decide) (by omega)).mono ?_
  rintro e w3 ⟨rfl, hb3, ho3⟩
  have hw3 := below_only hw2 ho3 (Nat.le_refl _) (Nat.le_refl _)
  go_wp2_with fail
  refine (take_no _ 2 10 1 0 9 _ hb3 (by unfold BkOK; omega) (by omega) (by omega) (by decide)).mono ?_
  rintro e w4 ⟨rfl, hb4, ho4⟩
  have hw4 := below_only hw3 ho4 (Nat.le_refl _) (Nat.le_refl _)
  go_wp2_with fail
  refine (wait_next _ 2 10 9 0 9 _ hb4 (by unfold BkOK; omega) (by omega) (by omega) (by decide) (by omega)).mono ?_
  rintro e w5 ⟨rfl, hb5, ho5⟩
  have hw5 := below_only hw4 ho5 (Nat.le_refl _) (Nat.le_refl _)
  go_wp2_with fail
  refine (has_g _ 2 10 9 0 10 1 _ hb5 (by unfold BkOK; omega) (by omega) (by omega) (by decide)).mono ?_
  rintro e w6 ⟨rfl, hb6, ho6⟩
  have hw6 := below_only hw5 ho6 (Nat.le_refl _) (Nat.le_refl _)
  go_wp2_with fail
  refine (most_any 2 10 25 _ (by omega) (by omega) (by omega)).mono ?_
  rintro e w7 ⟨rfl, rfl⟩
  go_wp2_with fail
  go_ret
  exact ⟨rfl, hw6⟩
end Go.Proofs.Ytllkhelklgdjeaa
