/- Layer 5: a meter is made; the bound of a span; the document's fixed answers. -/
import Derived.Test.YtlmfcdfodlcjaaaShareC
namespace Go.Proofs.Ytlmfcdfodlcjaaa
open Go.RowKit
set_option linter.unusedVariables false
theorem below_only {B b : Nat} {w0 w w' : World} (h : Below B w0 w) (ho : Only b w w') (hb : B ≤ b) (hs : B ≤ w0.heap.size) : Below B w0 w' :=
  h.trans (ho.below hb (Nat.le_trans hs h.size))
theorem tmay_no (t : Int) (w : World) (h : ¬ t < 4611686018427387904) : Calls Try.prog 21 #[.int .u64 t] w fun e w' => e = .returned (.bool false) ∧ w = w' :=
  (may_any t w).mono fun _ _ ⟨he, hw⟩ => ⟨by rw [he, decide_eq_false h], hw⟩
theorem new_ok (B P ph : Int) (w : World) (h : 1 ≤ B ∧ B ≤ P ∧ P ≤ 1099511627776) (hp : ph < 4611686018427387904) :
    Calls Try.prog 9 #[.agg #[.int .u64 B, .int .u64 P], .int .u64 ph] w fun r w' => ∃ b, w.heap.size ≤ b ∧ r = .returned (.tuple #[.pointer (some ⟨b, 0, none⟩), .int .i64 0]) ∧ Mk w' b B P ph ph 0 0 ∧ Below w.heap.size w w' := by
  go_enter Try.func9, Try.ntmps9
  go_wp2_with (first | (go_at_call 10; refine (may_yes B P _ h).mono ?_; rintro e w1 ⟨rfl, hw1⟩; have c0 := boxed hw1 0; have c1 := boxed hw1 1; simp at c0 c1) | (go_at_call 21; refine (tmay_yes _ _ hp).mono ?_; rintro e w' ⟨rfl, rfl⟩))
  have hb := below_box hw1
  go_ret2
  exact ⟨w1.heap.size, hb.size, rfl, Blk.new _ _ _, hb.alloc hb.size _⟩
theorem new_arg (B P ph : Int) (w : World) (h : ¬ (1 ≤ B ∧ B ≤ P ∧ P ≤ 1099511627776)) :
    Calls Try.prog 9 #[.agg #[.int .u64 B, .int .u64 P], .int .u64 ph] w fun r w' => r = .returned (.tuple #[.pointer none, .int .i64 1]) ∧ Below w.heap.size w w' := by
  go_enter Try.func9, Try.ntmps9
  go_wp2_with (go_at_call 10; refine (may_no B P _ h).mono ?_; rintro e w1 ⟨rfl, hw1⟩; have c0 := boxed hw1 0; have c1 := boxed hw1 1; simp at c0 c1)
  go_ret2
  exact ⟨rfl, below_box hw1⟩
theorem new_hor (B P ph : Int) (w : World) (h : 1 ≤ B ∧ B ≤ P ∧ P ≤ 1099511627776) (hp : ¬ ph < 4611686018427387904) :
    Calls Try.prog 9 #[.agg #[.int .u64 B, .int .u64 P], .int .u64 ph] w fun r w' => r = .returned (.tuple #[.pointer none, .int .i64 2]) ∧ Below w.heap.size w w' := by
  go_enter Try.func9, Try.ntmps9
  go_wp2_with (first | (go_at_call 10; refine (may_yes B P _ h).mono ?_; rintro e w1 ⟨rfl, hw1⟩; have c0 := boxed hw1 0; have c1 := boxed hw1 1; simp at c0 c1) | (go_at_call 21; refine (tmay_no _ _ (by omega)).mono ?_; rintro e w' ⟨rfl, rfl⟩))
  go_ret2
  exact ⟨rfl, below_box hw1⟩
/-- The bound of a span. -/
def mst (B P s : Int) : Int := mn (B * (tUp s P + 1)) s
theorem mul_bd {B P s : Int} (h : 1 ≤ B ∧ B ≤ P ∧ P ≤ 1099511627776) (h0 : 0 ≤ s) : 0 ≤ B * (tUp s P + 1) ∧ B * (tUp s P + 1) ≤ s + 2 * P := by
  have hu := tUp_nonneg h0 (show 1 ≤ P by omega)
  have hl := tUp_least (n := s) (show 1 ≤ P by omega)
  refine ⟨Int.mul_nonneg (by omega) (by omega), ?_⟩
  have h1 : B * (tUp s P + 1) ≤ P * (tUp s P + 1) := Int.mul_le_mul_of_nonneg_right h.2.1 (by omega)
  have h2 : P * (tUp s P + 1) = (tUp s P - 1) * P + 2 * P := by rw [Int.sub_mul, Int.mul_add, Int.mul_comm P]; omega
  omega
theorem most_any (B P s : Int) (w : World) (h : 1 ≤ B ∧ B ≤ P ∧ P ≤ 1099511627776) (h0 : 0 ≤ s) (hs : s ≤ 1099511627776) :
    Calls Try.prog 19 #[.agg #[.int .u64 B, .int .u64 P], .int .u64 s] w fun r w' => r = .returned (.int .u64 (mst B P s)) ∧ Below w.heap.size w w' := by
  have hu := tUp_nonneg h0 (show 1 ≤ P by omega)
  have hu2 := tUp_le h0 (show 1 ≤ P by omega)
  obtain ⟨m0, m1⟩ := mul_bd h h0
  unfold mst mn
  have d1 : decide (1099511627776 < s) = false := decide_eq_false (by omega)
  have UP := Lib.hid fun w => up_any s P w h0 (by omega) (by omega)
  generalize tUp s P = u at *
  by_cases hc : B * (u + 1) < s
  · rw [if_pos hc]
    go_enter Try.func19, Try.ntmps19
    go_wp2_with (go_at_call 10; refine (may_yes B P _ h).mono ?_; rintro e w1 ⟨rfl, hw1⟩; have c0 := boxed hw1 0; have c1 := boxed hw1 1; simp at c0 c1)
    go_quiet ((go_at_call 29; exact q_left (UP.out _)))
    go_wp2
    go_ret
    exact ⟨rfl, below_drewN (below_box hw1) _⟩
  · rw [if_neg hc]
    by_cases hc2 : s < B * (u + 1)
    · go_enter Try.func19, Try.ntmps19
      go_wp2_with (go_at_call 10; refine (may_yes B P _ h).mono ?_; rintro e w1 ⟨rfl, hw1⟩; have c0 := boxed hw1 0; have c1 := boxed hw1 1; simp at c0 c1)
      go_quiet ((go_at_call 29; exact q_left (UP.out _)))
      go_wp2
      go_ret
      exact ⟨rfl, below_drewN (below_box hw1) _⟩
    · have e : B * (u + 1) = s := by omega
      clear hc hc2
      go_enter Try.func19, Try.ntmps19
      go_wp2_with (go_at_call 10; refine (may_yes B P _ h).mono ?_; rintro e w1 ⟨rfl, hw1⟩; have c0 := boxed hw1 0; have c1 := boxed hw1 1; simp at c0 c1)
      go_quiet ((go_at_call 29; exact q_left (UP.out _)))
      go_wp2
      go_ret
      exact ⟨rfl, below_drewN (below_box hw1) _⟩
theorem most_none (B P s : Int) (w : World) (h : ¬ (1 ≤ B ∧ B ≤ P ∧ P ≤ 1099511627776) ∨ 1099511627776 < s) :
    Calls Try.prog 19 #[.agg #[.int .u64 B, .int .u64 P], .int .u64 s] w fun r w' => r = .returned (.int .u64 0) ∧ Below w.heap.size w w' := by
  by_cases hg : 1 ≤ B ∧ B ≤ P ∧ P ≤ 1099511627776
  · have d1 : decide (1099511627776 < s) = true := decide_eq_true (by omega)
    clear h
    go_enter Try.func19, Try.ntmps19
    go_wp2_with (go_at_call 10; refine (may_yes B P _ hg).mono ?_; rintro e w1 ⟨rfl, hw1⟩; have c0 := boxed hw1 0; have c1 := boxed hw1 1; simp at c0 c1)
    go_ret
    exact ⟨rfl, below_box hw1⟩
  · clear h
    go_enter Try.func19, Try.ntmps19
    go_wp2_with (go_at_call 10; refine (may_no B P _ hg).mono ?_; rintro e w1 ⟨rfl, hw1⟩; have c0 := boxed hw1 0; have c1 := boxed hw1 1; simp at c0 c1)
    go_ret
    exact ⟨rfl, below_box hw1⟩
theorem take_g (b : Nat) (B P ph N W T now n K t v : Int) (w : World) (hb : Mk w b B P ph N W T) (ho : MOK B P ph N W T) (h1 : N ≤ now) (h2 : now < 4611686018427387904) (hn : 0 ≤ n) (hK : (now - ph) / P = K) (ht : tkn W T K = t) (hv : mn n (B - t) = v) :
    Calls Try.prog 13 #[.pointer (some ⟨b, 0, none⟩), .int .u64 now, .int .u64 n] w fun e w' => e = .returned (.tuple #[.int .u64 v, .int .i64 0]) ∧ Mk w' b B P ph now K (t + v) ∧ Only b w w' := by
  subst hK; subst ht; subst hv; exact take_ok b B P ph N W T now n w hb ho h1 h2 hn
theorem left_g (b : Nat) (B P ph N W T now K t v : Int) (w : World) (hb : Mk w b B P ph N W T) (ho : MOK B P ph N W T) (h1 : N ≤ now) (h2 : now < 4611686018427387904) (hK : (now - ph) / P = K) (ht : tkn W T K = t) (hv : B - t = v) :
    Calls Try.prog 17 #[.pointer (some ⟨b, 0, none⟩), .int .u64 now] w fun e w' => e = .returned (.tuple #[.int .u64 v, .int .i64 0]) ∧ Mk w' b B P ph now K t ∧ Only b w w' := by
  subst hK; subst ht; subst hv; exact left_ok b B P ph N W T now w hb ho h1 h2
theorem wait_g (b : Nat) (B P ph N W T now K x : Int) (w : World) (hb : Mk w b B P ph N W T) (ho : MOK B P ph N W T) (h1 : N ≤ now) (h2 : now < 4611686018427387904) (hK : (now - ph) / P = K) (ht : tkn W T K = B) (hv : ph + K * P + P = x) (hx : x < 4611686018427387904) :
    Calls Try.prog 15 #[.pointer (some ⟨b, 0, none⟩), .int .u64 now] w fun e w' => e = .returned (.tuple #[.int .u64 x, .int .i64 0]) ∧ Mk w' b B P ph now K B ∧ Only b w w' := by
  subst hK; subst hv; exact wait_next b B P ph N W T now w hb ho h1 h2 ht hx
theorem wait_h (b : Nat) (B P ph N W T now K t : Int) (w : World) (hb : Mk w b B P ph N W T) (ho : MOK B P ph N W T) (h1 : N ≤ now) (h2 : now < 4611686018427387904) (hK : (now - ph) / P = K) (ht : tkn W T K = t) (hl : t < B) :
    Calls Try.prog 15 #[.pointer (some ⟨b, 0, none⟩), .int .u64 now] w fun e w' => e = .returned (.tuple #[.int .u64 now, .int .i64 0]) ∧ Mk w' b B P ph now K t ∧ Only b w w' := by
  subst hK; subst ht; exact wait_left b B P ph N W T now w hb ho h1 h2 (by omega)
/-- Windows and times. -/
theorem win_at {ph P k : Int} (hP : 1 ≤ P) : (ph + k * P - ph) / P = k := by
  rw [show ph + k * P - ph = k * P by omega, Int.mul_ediv_cancel _ (by omega)]
theorem win_in {ph P k d : Int} (hd : 0 ≤ d) (hd2 : d < P) : (ph + k * P + d - ph) / P = k := by
  rw [show ph + k * P + d - ph = d + k * P by omega, Int.add_mul_ediv_right _ _ (by omega), Int.ediv_eq_zero_of_lt hd hd2]; omega
theorem awake_any (w : World) : Calls Try.prog 8 #[] w fun e w' => e = .returned (.bool true) ∧ Below w.heap.size w w' := by
  go_enter Try.func8, Try.ntmps8
  go_wp2_with fail
  refine (new_ok 3 10 0 _ (by omega) (by omega)).mono ?_
  rintro e w1 ⟨b, hB, rfl, hb1, hw1⟩
  go_wp2_with fail
  refine (take_ok b 3 10 0 0 0 0 5 9 _ hb1 (by unfold MOK; omega) (by omega) (by omega) (by omega)).mono ?_
  rintro e w2 ⟨rfl, hb2, ho2⟩
  have hw2 := below_only hw1 ho2 hB (Nat.le_refl _)
  rw [show tkn 0 0 ((5 - 0) / 10) + mn 9 (3 - tkn 0 0 ((5 - 0) / 10)) = 3 by decide, show ((5 : Int) - 0) / 10 = 0 by decide] at hb2
  rw [show mn 9 (3 - tkn 0 0 ((5 - 0) / 10)) = 3 by decide]
  go_wp2_with fail
  refine (left_ok b 3 10 0 5 0 3 9 _ hb2 (by unfold MOK; omega) (by omega) (by omega)).mono ?_
  rintro e w3 ⟨rfl, hb3, ho3⟩
  have hw3 := below_only hw2 ho3 hB (Nat.le_refl _)
  rw [show tkn 0 3 ((9 - 0) / 10) = 3 by decide, show ((9 : Int) - 0) / 10 = 0 by decide] at hb3
  rw [show (3 : Int) - tkn 0 3 ((9 - 0) / 10) = 0 by decide]
  go_wp2_with fail
  refine (wait_next b 3 10 0 9 0 3 9 _ hb3 (by unfold MOK; omega) (by omega) (by omega) (by decide) (by omega)).mono ?_
  rintro e w4 ⟨rfl, hb4, ho4⟩
  have hw4 := below_only hw3 ho4 hB (Nat.le_refl _)
  rw [show ((9 : Int) - 0) / 10 = 0 by decide] at hb4
  go_wp2_with fail
  refine (left_ok b 3 10 0 9 0 3 10 _ hb4 (by unfold MOK; omega) (by omega) (by omega)).mono ?_
  rintro e w5 ⟨rfl, hb5, ho5⟩
  have hw5 := below_only hw4 ho5 hB (Nat.le_refl _)
  rw [show (3 : Int) - tkn 0 3 ((10 - 0) / 10) = 3 by decide]
  go_wp2_with fail
  refine (most_any 3 10 11 _ (by omega) (by omega) (by omega)).mono ?_
  rintro e w6 ⟨rfl, hw6⟩
  rw [show mst 3 10 11 = 9 by decide]
  go_wp2_with fail
  go_ret
  exact ⟨rfl, hw5.trans (hw6.mono hw5.size)⟩
end Go.Proofs.Ytlmfcdfodlcjaaa
