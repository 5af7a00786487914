/- Layer 11: what else a gatherer answers; the document's fixed answers. -/
import Derived.Test.YtaoioejgealciaaCoalC
namespace Go.Proofs.Ytaoioejgealciaa
open Go.RowKit
set_option linter.unusedVariables false
theorem below_only {B b : Nat} {w0 w w' : World} (h : Below B w0 w) (ho : Only b w w') (hb : B ≤ b) (hs : B ≤ w0.heap.size) : Below B w0 w' :=
  h.trans (ho.below hb (Nat.le_trans hs h.size))
theorem new_ok (C H : Int) (w : World) (h : 1 ≤ C ∧ C ≤ 1000 ∧ 0 ≤ H ∧ H ≤ 1099511627776) :
    Calls Try.prog 22 #[.int .i64 C, .int .u64 H] w fun r w' => r = .returned (.tuple #[.pointer (some ⟨w.heap.size, 0, none⟩), .int .i64 0]) ∧ Gk w' w.heap.size C H 0 0 0 ∧ w.heap.size < w'.heap.size ∧ Below w.heap.size w w' := by
  obtain ⟨h1, h2, h3, h4⟩ := h
  have d1 : decide (1099511627776 < H) = false := decide_eq_false (by omega)
  go_enter Try.func22, Try.ntmps22
  go_wp2
  go_ret2
  exact ⟨rfl, Blk.new _ _ _, by simp, (Below.refl _ _).alloc (Nat.le_refl _) _⟩
theorem new_no (C H : Int) (w : World) (h0 : 0 ≤ H) (h : ¬ (1 ≤ C ∧ C ≤ 1000 ∧ 0 ≤ H ∧ H ≤ 1099511627776)) :
    Calls Try.prog 22 #[.int .i64 C, .int .u64 H] w fun r w' => r = .returned (.tuple #[.pointer none, .int .i64 1]) ∧ w = w' := by
  by_cases h1 : C < 1
  · clear h
    go_enter Try.func22, Try.ntmps22
    go_wp2
    go_ret2
    exact ⟨rfl, rfl⟩
  · by_cases h2 : 1000 < C
    · clear h
      go_enter Try.func22, Try.ntmps22
      go_wp2
      go_ret2
      exact ⟨rfl, rfl⟩
    · have d1 : decide (1099511627776 < H) = true := decide_eq_true (by omega)
      clear h
      go_enter Try.func22, Try.ntmps22
      go_wp2
      go_ret2
      exact ⟨rfl, rfl⟩
theorem may_no (t : Int) (w : World) (h : ¬ t < 4611686018427387904) : Calls Try.prog 38 #[.int .u64 t] w fun e w' => e = .returned (.bool false) ∧ w = w' :=
  (may_any t w).mono fun _ _ ⟨he, hw⟩ => ⟨by rw [he, decide_eq_false h], hw⟩
theorem raise_hor (b : Nat) (C H N K F now : Int) (w : World) (hb : Gk w b C H N K F) (hl : ¬ now < 4611686018427387904) :
    Calls Try.prog 37 #[.pointer (some ⟨b, 0, none⟩), .int .u64 now] w fun e w' => e = .returned (.tuple #[.int .i64 0, .int .i64 2]) ∧ Gk w' b C H N K F ∧ Only b w w' := by
  go_enter Try.func37, Try.ntmps37
  go_wp2_with (first | (go_at_call 38; refine (may_no _ _ hl).mono ?_; rintro e w' ⟨rfl, rfl⟩) | go_in)
  go_ret2
  exact ⟨rfl, (Blk.alloc hb _).alloc _, ((Only.refl _ _).alloc _).alloc _⟩
theorem raise_arg (b : Nat) (C H N K F now : Int) (w : World) (hb : Gk w b C H N K F) (hl : now < 4611686018427387904) (hN : now < N) :
    Calls Try.prog 37 #[.pointer (some ⟨b, 0, none⟩), .int .u64 now] w fun e w' => e = .returned (.tuple #[.int .i64 0, .int .i64 1]) ∧ Gk w' b C H N K F ∧ Only b w w' := by
  have hbl := hb.lt
  have c2 := Gk.c2 (w := (w.alloc (.cells #[.pointer (some ⟨b, 0, none⟩)] 52)).alloc (.cells #[.int .u64 now] 22)) ((Blk.alloc hb _).alloc _)
  have d1 : decide (now < N) = true := decide_eq_true hN
  go_enter Try.func37, Try.ntmps37
  go_wp2_with (first | (go_at_call 38; refine (may_yes _ _ hl).mono ?_; rintro e w' ⟨rfl, rfl⟩) | go_in)
  go_ret2
  exact ⟨rfl, (Blk.alloc hb _).alloc _, ((Only.refl _ _).alloc _).alloc _⟩
end Go.Proofs.Ytaoioejgealciaa
