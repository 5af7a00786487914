/- Layer 11: what else a gatherer answers; the document's fixed answers. -/
import Derived.Test.YtfidjjeignljjaaCoalC
namespace Go.Proofs.Ytfidjjeignljjaa
open Go.RowKit
set_option linter.unusedVariables false
theorem below_only {B b : Nat} {w0 w w' : World} (h : Below B w0 w) (ho : Only b w w') (hb : B ≤ b) (hs : B ≤ w0.heap.size) : Below B w0 w' :=
  h.trans (ho.below hb (Nat.le_trans hs h.size))
theorem new_ok (C H : Int) (w : World) (h : 1 ≤ C ∧ C ≤ 1000 ∧ 0 ≤ H ∧ H ≤ 1099511627776) :
    Calls Try.prog 9 #[.int .i64 C, .int .u64 H] w fun r w' => r = .returned (.tuple #[.pointer (some ⟨w.heap.size, 0, none⟩), .int .i64 0]) ∧ Gk w' w.heap.size C H 0 0 0 ∧ w.heap.size < w'.heap.size ∧ Below w.heap.size w w' := by
  obtain ⟨h1, h2, h3, h4⟩ := h
  have d1 : decide (1099511627776 < H) = false := decide_eq_false (by omega)
  go_enter Try.func9, Try.ntmps9
  go_wp2
  go_ret2
  exact ⟨rfl, Blk.new _ _ _, by simp, (Below.refl _ _).alloc (Nat.le_refl _) _⟩
theorem new_no (C H : Int) (w : World) (h0 : 0 ≤ H) (h : ¬ (1 ≤ C ∧ C ≤ 1000 ∧ 0 ≤ H ∧ H ≤ 1099511627776)) :
    Calls Try.prog 9 #[.int .i64 C, .int .u64 H] w fun r w' => r = .returned (.tuple #[.pointer none, .int .i64 1]) ∧ w = w' := by
  by_cases h1 : C < 1
  · clear h
    go_enter Try.func9, Try.ntmps9
    go_wp2
    go_ret2
    exact ⟨rfl, rfl⟩
  · by_cases h2 : 1000 < C
    · clear h
      go_enter Try.func9, Try.ntmps9
      go_wp2
      go_ret2
      exact ⟨rfl, rfl⟩
    · have d1 : decide (1099511627776 < H) = true := decide_eq_true (by omega)
      clear h
      go_enter Try.func9, Try.ntmps9
      go_wp2
      go_ret2
      exact ⟨rfl, rfl⟩
theorem has_any (b : Nat) (C H N K F : Int) (w : World) (hb : Gk w b C H N K F) :
    Calls Try.prog 17 #[.pointer (some ⟨b, 0, none⟩)] w fun e w' => e = .returned (.int .i64 K) ∧ w = w' := by
  have c3 := hb.c3
  go_enter Try.func17, Try.ntmps17
  go_wp2
  go_ret
  exact ⟨rfl, rfl⟩
theorem may_no (t : Int) (w : World) (h : ¬ t < 4611686018427387904) : Calls Try.prog 23 #[.int .u64 t] w fun e w' => e = .returned (.bool false) ∧ w = w' :=
  (may_any t w).mono fun _ _ ⟨he, hw⟩ => ⟨by rw [he, decide_eq_false h], hw⟩
theorem raise_hor (b : Nat) (C H N K F now : Int) (w : World) (hb : Gk w b C H N K F) (hl : ¬ now < 4611686018427387904) :
    Calls Try.prog 11 #[.pointer (some ⟨b, 0, none⟩), .int .u64 now] w fun e w' => e = .returned (.tuple #[.int .i64 0, .int .i64 2]) ∧ Gk w' b C H N K F ∧ Only b w w' := by
  go_enter Try.func11, Try.ntmps11
  go_wp2_with (first | (go_at_call 23; refine (may_no _ _ hl).mono ?_; rintro e w' ⟨rfl, rfl⟩) | go_in)
  go_ret2
  exact ⟨rfl, (Blk.alloc hb _).alloc _, ((Only.refl _ _).alloc _).alloc _⟩
theorem raise_arg (b : Nat) (C H N K F now : Int) (w : World) (hb : Gk w b C H N K F) (hl : now < 4611686018427387904) (hN : now < N) :
    Calls Try.prog 11 #[.pointer (some ⟨b, 0, none⟩), .int .u64 now] w fun e w' => e = .returned (.tuple #[.int .i64 0, .int .i64 1]) ∧ Gk w' b C H N K F ∧ Only b w w' := by
  have hbl := hb.lt
  have c2 := Gk.c2 (w := (w.alloc (.cells #[.pointer (some ⟨b, 0, none⟩)] 25)).alloc (.cells #[.int .u64 now] 22)) ((Blk.alloc hb _).alloc _)
  have d1 : decide (now < N) = true := decide_eq_true hN
  go_enter Try.func11, Try.ntmps11
  go_wp2_with (first | (go_at_call 23; refine (may_yes _ _ hl).mono ?_; rintro e w' ⟨rfl, rfl⟩) | go_in)
  go_ret2
  exact ⟨rfl, (Blk.alloc hb _).alloc _, ((Only.refl _ _).alloc _).alloc _⟩
theorem awake_any (w : World) : Calls Try.prog 8 #[] w fun e w' => e = .returned (.bool true) ∧ Below w.heap.size w w' := by
  go_enter Try.func8, Try.ntmps8
  go_wp2_with fail
  refine (new_ok 3 10 _ (by omega)).mono ?_
  rintro e w1 ⟨rfl, hb1, hz, hw1⟩
  go_wp2_with fail
  refine (raise_not _ 3 10 0 0 0 5 _ hb1 (by unfold KOK; omega) (by omega) (by omega) (by omega) (by omega)).mono ?_
  rintro e w2 ⟨rfl, hb2, ho2⟩
  have hw2 := below_only hw1 ho2 (Nat.le_refl _) (Nat.le_refl _)
  rw [show rK 3 10 0 = 1 by decide, show rF 0 0 5 = 5 by decide] at hb2
  go_wp2_with fail
  refine (raise_not _ 3 10 5 1 5 6 _ hb2 (by unfold KOK; omega) (by omega) (by omega) (by omega) (by omega)).mono ?_
  rintro e w3 ⟨rfl, hb3, ho3⟩
  have hw3 := below_only hw2 ho3 (Nat.le_refl _) (Nat.le_refl _)
  rw [show rK 3 10 1 = 2 by decide, show rF 1 5 6 = 5 by decide] at hb3
  rw [show rR 3 10 1 = 0 by decide]
  go_wp2_with fail
  refine (due_some _ 3 10 6 2 5 _ hb3 (by omega) (by omega) (by omega) (by omega) (by omega)).mono ?_
  rintro e w4 ⟨rfl, hb4, ho4⟩
  have hw4 := below_only hw3 ho4 (Nat.le_refl _) (Nat.le_refl _)
  go_wp2_with fail
  refine (go_due _ 3 10 6 2 5 15 _ hb4 (by unfold KOK; omega) (by omega) (by omega) (by omega) (by omega)).mono ?_
  rintro e w5 ⟨rfl, hb5, ho5⟩
  have hw5 := below_only hw4 ho5 (Nat.le_refl _) (Nat.le_refl _)
  go_wp2_with fail
  refine (new_no 0 1 _ (by omega) (by omega)).mono ?_
  rintro e w6 ⟨rfl, rfl⟩
  go_wp2_with fail
  refine (has_any _ _ _ _ _ _ _ hb5).mono ?_
  rintro e w7 ⟨rfl, rfl⟩
  go_wp2_with fail
  go_ret
  exact ⟨rfl, hw5⟩
end Go.Proofs.Ytfidjjeignljjaa
