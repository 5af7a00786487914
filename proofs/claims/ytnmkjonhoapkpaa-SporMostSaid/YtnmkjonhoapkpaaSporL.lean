/- Layer 14: a budget is made; when the next unit is there; the bound of a span; the document's fixed answers. -/
import Derived.Test.YtnmkjonhoapkpaaSporC
namespace Go.Proofs.Ytnmkjonhoapkpaa
open Go.RowKit
set_option linter.unusedVariables false
def SOK (B P : Int) : Prop := 1 ≤ B ∧ B ≤ 200 ∧ B ≤ P ∧ P ≤ 1099511627776
theorem smay_yes (B P : Int) (w : World) (h : SOK B P) :
    Calls Try.prog 12 #[.agg #[.int .i64 B, .int .u64 P]] w fun e w' => e = .returned (.bool true) ∧ Below w.heap.size w w' := by
  unfold SOK at h
  have d1 : decide (1 ≤ B) = true := decide_eq_true h.1
  have d2 : decide (B ≤ 200) = true := decide_eq_true h.2.1
  have d3 : decide (B ≤ P) = true := decide_eq_true h.2.2.1
  have d4 : decide (P ≤ 1099511627776) = true := decide_eq_true h.2.2.2
  have hw : IntKind.u64.wrap B = B := IntWalk.u64_in _ ⟨by omega, by omega⟩
  go_enter Try.func12, Try.ntmps12
  go_wp2
  go_ret
  exact ⟨rfl, (Below.refl _ _).alloc (Nat.le_refl _) _⟩
theorem smay_no (B P : Int) (w : World) (h : ¬ SOK B P) (h2 : P ≤ 18446744073709551615) :
    Calls Try.prog 12 #[.agg #[.int .i64 B, .int .u64 P]] w fun e w' => e = .returned (.bool false) ∧ Below w.heap.size w w' := by
  unfold SOK at h
  by_cases h1 : 1 ≤ B
  · have d1 : decide (1 ≤ B) = true := decide_eq_true h1
    by_cases h2 : B ≤ 200
    · have d2 : decide (B ≤ 200) = true := decide_eq_true h2
      have hw : IntKind.u64.wrap B = B := IntWalk.u64_in _ ⟨by omega, by omega⟩
      by_cases h3 : B ≤ P
      · have d3 : decide (B ≤ P) = true := decide_eq_true h3
        have d4 : decide (P ≤ 1099511627776) = false := decide_eq_false (by omega)
        clear h
        go_enter Try.func12, Try.ntmps12
        go_wp2
        go_ret
        exact ⟨rfl, (Below.refl _ _).alloc (Nat.le_refl _) _⟩
      · have d3 : decide (B ≤ P) = false := decide_eq_false h3
        clear h
        go_enter Try.func12, Try.ntmps12
        go_wp2
        go_ret
        exact ⟨rfl, (Below.refl _ _).alloc (Nat.le_refl _) _⟩
    · have d2 : decide (B ≤ 200) = false := decide_eq_false h2
      clear h
      go_enter Try.func12, Try.ntmps12
      go_wp2
      go_ret
      exact ⟨rfl, (Below.refl _ _).alloc (Nat.le_refl _) _⟩
  · have d1 : decide (1 ≤ B) = false := decide_eq_false h1
    clear h
    go_enter Try.func12, Try.ntmps12
    go_wp2
    go_ret
    exact ⟨rfl, (Below.refl _ _).alloc (Nat.le_refl _) _⟩
theorem new_ok (B P : Int) (w : World) (h : SOK B P) :
    Calls Try.prog 8 #[.agg #[.int .i64 B, .int .u64 P]] w fun r w' => ∃ b, w.heap.size ≤ b ∧ r = .returned (.tuple #[.pointer (some ⟨b, 0, none⟩), .int .i64 0]) ∧ Sb w' b B P 0 (.slice none 0 0) ∧ Below w.heap.size w w' := by
  go_enter Try.func8, Try.ntmps8
  go_wp2_with (go_at_call 12; refine (smay_yes B P _ h).mono ?_; rintro e w1 ⟨rfl, hw1⟩; have c0 := boxed hw1 0; have c1 := boxed hw1 1; simp at c0 c1)
  have hb := below_box hw1
  go_ret2
  exact ⟨w1.heap.size, hb.size, rfl, Blk.new _ _ _, hb.alloc hb.size _⟩
theorem new_arg (B P : Int) (w : World) (h : ¬ SOK B P) (h2 : P ≤ 18446744073709551615) :
    Calls Try.prog 8 #[.agg #[.int .i64 B, .int .u64 P]] w fun r w' => r = .returned (.tuple #[.pointer none, .int .i64 1]) ∧ Below w.heap.size w w' := by
  go_enter Try.func8, Try.ntmps8
  go_wp2_with (go_at_call 12; refine (smay_no B P _ h h2).mono ?_; rintro e w1 ⟨rfl, hw1⟩; have c0 := boxed hw1 0; have c1 := boxed hw1 1; simp at c0 c1)
  go_ret2
  exact ⟨rfl, below_box hw1⟩
/-- The bound of a span. -/
def smst (B P s : Int) : Int := if B * tUp s P < s then B * tUp s P else s
theorem smul_bd {B P s : Int} (h : SOK B P) (h0 : 0 ≤ s) (hs : s ≤ 1099511627776) : 0 ≤ tUp s P ∧ tUp s P ≤ s ∧ 0 ≤ B * tUp s P ∧ B * tUp s P ≤ 200 * 1099511627776 := by
  unfold SOK at h
  have hu := tUp_nonneg h0 (show 1 ≤ P by omega)
  have hu2 := tUp_le h0 (show 1 ≤ P by omega)
  refine ⟨hu, hu2, Int.mul_nonneg (by omega) hu, ?_⟩
  have h1 : B * tUp s P ≤ 200 * tUp s P := Int.mul_le_mul_of_nonneg_right h.2.1 hu
  omega
theorem smost_any (B P s : Int) (w : World) (h : SOK B P) (h0 : 0 ≤ s) (hs : s ≤ 1099511627776) :
    Calls Try.prog 11 #[.agg #[.int .i64 B, .int .u64 P], .int .u64 s] w fun r w' => r = .returned (.int .u64 (smst B P s)) ∧ Below w.heap.size w w' := by
  obtain ⟨hu, hu2, m0, m1⟩ := smul_bd h h0 hs
  have hB : 1 ≤ B ∧ B ≤ 200 := ⟨h.1, h.2.1⟩
  have hP : 1 ≤ P := by have := h.2.2.1; omega
  have hwB : IntKind.u64.wrap B = B := IntWalk.u64_in _ ⟨by omega, by omega⟩
  have hwM : IntKind.u64.wrap (B * tUp s P) = B * tUp s P := IntWalk.u64_in _ ⟨by omega, by omega⟩
  unfold smst
  have d1 : decide (1099511627776 < s) = false := decide_eq_false (by omega)
  have UP := Lib.hid fun w => up_any s P w h0 (by omega) (by omega)
  generalize tUp s P = u at *
  by_cases hc : B * u < s
  · rw [if_pos hc]
    go_enter Try.func11, Try.ntmps11
    go_wp2_with (go_at_call 12; refine (smay_yes B P _ h).mono ?_; rintro e w1 ⟨rfl, hw1⟩; have c0 := boxed hw1 0; have c1 := boxed hw1 1; simp at c0 c1)
    go_quiet ((go_at_call 15; exact q_left (UP.out _)))
    go_wp2
    go_ret
    exact ⟨rfl, below_drewN (below_box hw1) _⟩
  · rw [if_neg hc]
    by_cases hc2 : s < B * u
    · go_enter Try.func11, Try.ntmps11
      go_wp2_with (go_at_call 12; refine (smay_yes B P _ h).mono ?_; rintro e w1 ⟨rfl, hw1⟩; have c0 := boxed hw1 0; have c1 := boxed hw1 1; simp at c0 c1)
      go_quiet ((go_at_call 15; exact q_left (UP.out _)))
      go_wp2
      go_ret
      exact ⟨rfl, below_drewN (below_box hw1) _⟩
    · have e : B * u = s := by omega
      clear hc hc2
      go_enter Try.func11, Try.ntmps11
      go_wp2_with (go_at_call 12; refine (smay_yes B P _ h).mono ?_; rintro e w1 ⟨rfl, hw1⟩; have c0 := boxed hw1 0; have c1 := boxed hw1 1; simp at c0 c1)
      go_quiet ((go_at_call 15; exact q_left (UP.out _)))
      go_wp2
      go_ret
      exact ⟨rfl, below_drewN (below_box hw1) _⟩
theorem smost_none (B P s : Int) (w : World) (h : ¬ SOK B P ∨ 1099511627776 < s) (h2 : P ≤ 18446744073709551615) :
    Calls Try.prog 11 #[.agg #[.int .i64 B, .int .u64 P], .int .u64 s] w fun r w' => r = .returned (.int .u64 0) ∧ Below w.heap.size w w' := by
  by_cases hg : SOK B P
  · have d1 : decide (1099511627776 < s) = true := decide_eq_true (by rcases h with h | h; exact absurd hg h; exact h)
    clear h
    go_enter Try.func11, Try.ntmps11
    go_wp2_with (go_at_call 12; refine (smay_yes B P _ hg).mono ?_; rintro e w1 ⟨rfl, hw1⟩; have c0 := boxed hw1 0; have c1 := boxed hw1 1; simp at c0 c1)
    go_ret
    exact ⟨rfl, below_box hw1⟩
  · clear h
    go_enter Try.func11, Try.ntmps11
    go_wp2_with (go_at_call 12; refine (smay_no B P _ hg h2).mono ?_; rintro e w1 ⟨rfl, hw1⟩; have c0 := boxed hw1 0; have c1 := boxed hw1 1; simp at c0 c1)
    go_ret
    exact ⟨rfl, below_box hw1⟩
theorem first_less (b base : Nat) (B P N : Int) (v : Value) (xs : List Int) (w : World) (hb : Sb w b B P N v) (hx : Tm w base v xs) (hB : 0 ≤ B ∧ B ≤ 200) (hn : (xs.length : Int) ≤ 1000) (hl : xs.length < B) :
    Calls Try.prog 17 #[.pointer (some ⟨b, 0, none⟩)] w fun e w' => e = .returned (.int .u64 0) ∧ ∃ k, w' = w.drewN k := by
  have d1 : decide (0 < B - (xs.length : Int)) = true := decide_eq_true (by omega)
  go_enter Try.func17, Try.ntmps17
  go_wp2_with fail
  refine (left_tm b base B P N v xs _ hb hx hB hn).mono ?_
  rintro e w2 ⟨rfl, k, rfl⟩
  go_wp2_with fail
  go_ret
  exact ⟨rfl, k, rfl⟩
theorem first_full (b base : Nat) (B P N : Int) (v : Value) (x : Int) (xs : List Int) (w : World) (hb : Sb w b B P N v) (hx : Tm w base v (x :: xs)) (hB : 0 ≤ B ∧ B ≤ 200) (hl : B = (x :: xs).length) :
    Calls Try.prog 17 #[.pointer (some ⟨b, 0, none⟩)] w fun e w' => e = .returned (.int .u64 x) ∧ ∃ k, w' = w.drewN k := by
  have d1 : decide (0 < B - ((x :: xs).length : Int)) = false := decide_eq_false (by omega)
  have hlen : (((x :: xs).length : Nat) : Int) ≤ 1000 := by omega
  obtain ⟨A, cap, hv, _, _, hA⟩ := Lst.shape hx
  obtain ⟨g, off, rfl, _, _, hc⟩ := hA (by simp)
  have hcell := hc 0 (.int .u64 x) (by simp)
  simp only [Nat.add_zero] at hcell
  have CL := Lib.hid hc
  clear hc
  subst hv
  have c3 := hb.c3
  have hpos : 0 < (x :: xs).length := by simp
  have LT := Lib.hid (fun w => left_tm b base B P N (.slice (some ⟨g, off, none⟩) (x :: xs).length cap) (x :: xs) w)
  generalize hnn : (x :: xs).length = n at *
  clear hnn
  go_enter Try.func17, Try.ntmps17
  go_wp2_with fail
  refine (LT.out _ hb hx hB hlen).mono ?_
  rintro e w2 ⟨rfl, k, rfl⟩
  go_wp2_with fail
  go_ret
  exact ⟨rfl, k, rfl⟩
theorem next_f (b base : Nat) (B P N now f nx : Int) (v : Value) (xs : List Int) (w : World) (hb : Sb w b B P N v) (hx : Tm w base v xs) (hB : 0 ≤ B ∧ B ≤ 200) (hn : xs.length ≤ 1000) (h1 : N ≤ now) (h2 : now < 4611686018427387904)
    (hF : Calls Try.prog 17 #[.pointer (some ⟨b, 0, none⟩)] w fun e w' => e = .returned (.int .u64 f) ∧ ∃ k, w' = w.drewN k) (hx2 : nx = if now < f then f else now) (hnx : nx < 4611686018427387904) :
    Calls Try.prog 13 #[.pointer (some ⟨b, 0, none⟩), .int .u64 now] w fun e w' => e = .returned (.tuple #[.int .u64 nx, .int .i64 0]) ∧ Bud w w' b base B P now v (notBack now xs) := by
  by_cases c1 : now < f
  · rw [if_pos c1] at hx2
    subst hx2
    go_enter Try.func13, Try.ntmps13
    go_wp2_with fail
    refine (check_ok b B P N now v _ hb h1 h2).mono ?_
    rintro e w' ⟨rfl, rfl⟩
    go_wp2_with fail
    refine hF.mono ?_
    rintro e w2 ⟨rfl, k, rfl⟩
    go_wp2_with fail
    refine (tmay_yes _ _ hnx).mono ?_
    rintro e w' ⟨rfl, rfl⟩
    go_wp2_with fail
    refine (goOn_any b base B P N now v xs _ (hb.drewN k) (Lst.drewN hx k) hn).mono ?_
    rintro e w3 ⟨rfl, v', hb3, hx3, hv3, ho3⟩
    go_wp2_with fail
    go_ret2
    exact ⟨rfl, v', hb3, hx3, hv3, ⟨ho3.os, ho3.tape, ho3.output, ho3.size, ho3.block⟩⟩
  · rw [if_neg c1] at hx2
    subst hx2
    by_cases c2 : f < nx
    · go_enter Try.func13, Try.ntmps13
      go_wp2_with fail
      refine (check_ok b B P N nx v _ hb h1 h2).mono ?_
      rintro e w' ⟨rfl, rfl⟩
      go_wp2_with fail
      refine hF.mono ?_
      rintro e w2 ⟨rfl, k, rfl⟩
      go_wp2_with fail
      refine (tmay_yes _ _ hnx).mono ?_
      rintro e w' ⟨rfl, rfl⟩
      go_wp2_with fail
      refine (goOn_any b base B P N nx v xs _ (hb.drewN k) (Lst.drewN hx k) hn).mono ?_
      rintro e w3 ⟨rfl, v', hb3, hx3, hv3, ho3⟩
      go_wp2_with fail
      go_ret2
      exact ⟨rfl, v', hb3, hx3, hv3, ⟨ho3.os, ho3.tape, ho3.output, ho3.size, ho3.block⟩⟩
    · have e : f = nx := by omega
      subst e
      clear c1 c2
      go_enter Try.func13, Try.ntmps13
      go_wp2_with fail
      refine (check_ok b B P N f v _ hb h1 h2).mono ?_
      rintro e w' ⟨rfl, rfl⟩
      go_wp2_with fail
      refine hF.mono ?_
      rintro e w2 ⟨rfl, k, rfl⟩
      go_wp2_with fail
      refine (tmay_yes _ _ hnx).mono ?_
      rintro e w' ⟨rfl, rfl⟩
      go_wp2_with fail
      refine (goOn_any b base B P N f v xs _ (hb.drewN k) (Lst.drewN hx k) hn).mono ?_
      rintro e w3 ⟨rfl, v', hb3, hx3, hv3, ho3⟩
      go_wp2_with fail
      go_ret2
      exact ⟨rfl, v', hb3, hx3, hv3, ⟨ho3.os, ho3.tape, ho3.output, ho3.size, ho3.block⟩⟩
/-- Behind a budget's call the memory below the bound is as it was. -/
theorem two_below {B0 b : Nat} {o : Option Nat} {w0 w w' : World} (h : Below B0 w0 w) (ho : Two b o w w') (hb : B0 ≤ b) (hg : ∀ k, o = some k → B0 ≤ k) (hs : B0 ≤ w0.heap.size) : Below B0 w0 w' :=
  h.trans (ho.below hb hg (Nat.le_trans hs h.size))
theorem only_below {B b : Nat} {w0 w w' : World} (h : Below B w0 w) (ho : Only b w w') (hb : B ≤ b) (hs : B ≤ w0.heap.size) : Below B w0 w' :=
  h.trans (ho.below hb (Nat.le_trans hs h.size))
theorem Tm.own {w : World} {base : Nat} {v : Value} {xs : List Int} (h : Tm w base v xs) {g : Nat} (hg : v.ownBlock = some g) : base ≤ g := (Lst.block h hg).1
theorem awake_any (w : World) : Calls Try.prog 7 #[] w fun e w' => e = .returned (.bool true) ∧ Below w.heap.size w w' := by
  go_enter Try.func7, Try.ntmps7
  go_wp2_with fail
  refine (new_ok 2 10 _ (by unfold SOK; omega)).mono ?_
  rintro e w1 ⟨b, hB, rfl, hb1, hw1⟩
  have hx1 : Tm w1 w.heap.size (.slice none 0 0) [] := Lst.nil _ _ _
  go_wp2_with fail
  refine (Use_yes b w.heap.size 2 10 0 0 _ [] _ hb1 hx1 (by omega) (by simp) (by omega) (by omega) (by omega) (by omega) (by decide) hw1.size).mono ?_
  rintro e w2 ⟨rfl, v2, hb2, hx2, -, ho2⟩
  have hw2 := two_below hw1 ho2 hB (fun k hk => Tm.own hx1 hk) (Nat.le_refl _)
  rw [show notBack 0 [] ++ [(0 : Int) + 10] = [10] by decide] at hx2
  go_wp2_with fail
  refine (Use_yes b w.heap.size 2 10 0 3 _ [10] _ hb2 hx2 (by omega) (by simp) (by omega) (by omega) (by omega) (by omega) (by decide) hw2.size).mono ?_
  rintro e w3 ⟨rfl, v3, hb3, hx3, -, ho3⟩
  have hw3 := two_below hw2 ho3 hB (fun k hk => Tm.own hx2 hk) (Nat.le_refl _)
  rw [show notBack 3 [10] ++ [(3 : Int) + 10] = [10, 13] by decide] at hx3
  go_wp2_with fail
  refine (Use_no b w.heap.size 2 10 3 9 _ [10, 13] _ hb3 hx3 (by omega) (by simp) (by omega) (by omega) (by decide)).mono ?_
  rintro e w4 ⟨rfl, v4, hb4, hx4, -, ho4⟩
  have hw4 := only_below hw3 ho4 hB (Nat.le_refl _)
  rw [show notBack 9 [10, 13] = [10, 13] by decide] at hx4
  go_wp2_with fail
  refine (next_f b w.heap.size 2 10 9 9 10 10 _ [10, 13] _ hb4 hx4 (by omega) (by simp) (by omega) (by omega) (first_full b w.heap.size 2 10 9 _ 10 [13] _ hb4 hx4 (by omega) (by simp)) (by decide) (by omega)).mono ?_
  rintro e w5 ⟨rfl, v5, hb5, hx5, -, ho5⟩
  have hw5 := only_below hw4 ho5 hB (Nat.le_refl _)
  rw [show notBack 9 [10, 13] = [10, 13] by decide] at hx5
  go_wp2_with fail
  refine (Left_ok b w.heap.size 2 10 9 10 _ [10, 13] _ hb5 hx5 (by omega) (by simp) (by omega) (by omega)).mono ?_
  rintro e w6 ⟨rfl, v6, hb6, hx6, -, ho6⟩
  have hw6 := only_below hw5 ho6 hB (Nat.le_refl _)
  rw [show notBack 10 [10, 13] = [13] by decide] at hx6
  rw [show (2 : Int) - ((notBack 10 [10, 13]).length : Int) = 1 by decide]
  go_wp2_with fail
  refine (Left_ok b w.heap.size 2 10 10 13 _ [13] _ hb6 hx6 (by omega) (by simp) (by omega) (by omega)).mono ?_
  rintro e w7 ⟨rfl, v7, hb7, hx7, -, ho7⟩
  have hw7 := only_below hw6 ho7 hB (Nat.le_refl _)
  rw [show (2 : Int) - ((notBack 13 [13]).length : Int) = 2 by decide]
  go_wp2_with fail
  refine (smost_any 2 10 11 _ (by unfold SOK; omega) (by omega) (by omega)).mono ?_
  rintro e w8 ⟨rfl, hw8⟩
  rw [show smst 2 10 11 = 4 by decide]
  go_wp2_with fail
  go_ret
  exact ⟨rfl, hw7.trans (hw8.mono hw7.size)⟩
end Go.Proofs.Ytnmkjonhoapkpaa
