/- Layer 5: a meter is made; the bound of a span; the document's fixed answers. -/
import Derived.Test.YtabocojmobbpaaaShareC
namespace Go.Proofs.Ytabocojmobbpaaa
open Go.RowKit
set_option linter.unusedVariables false
theorem below_only {B b : Nat} {w0 w w' : World} (h : Below B w0 w) (ho : Only b w w') (hb : B ≤ b) (hs : B ≤ w0.heap.size) : Below B w0 w' :=
  h.trans (ho.below hb (Nat.le_trans hs h.size))
theorem tmay_no (t : Int) (w : World) (h : ¬ t < 4611686018427387904) : Calls Try.prog 25 #[.int .u64 t] w fun e w' => e = .returned (.bool false) ∧ w = w' :=
  (may_any t w).mono fun _ _ ⟨he, hw⟩ => ⟨by rw [he, decide_eq_false h], hw⟩
theorem new_ok (B P ph : Int) (w : World) (h : 1 ≤ B ∧ B ≤ P ∧ P ≤ 1099511627776) (hp : ph < 4611686018427387904) :
    Calls Try.prog 21 #[.agg #[.int .u64 B, .int .u64 P], .int .u64 ph] w fun r w' => ∃ b, w.heap.size ≤ b ∧ r = .returned (.tuple #[.pointer (some ⟨b, 0, none⟩), .int .i64 0]) ∧ Mk w' b B P ph ph 0 0 ∧ Below w.heap.size w w' := by
  go_enter Try.func21, Try.ntmps21
  go_wp2_with (first | (go_at_call 22; refine (may_yes B P _ h).mono ?_; rintro e w1 ⟨rfl, hw1⟩; have c0 := boxed hw1 0; have c1 := boxed hw1 1; simp at c0 c1) | (go_at_call 25; refine (tmay_yes _ _ hp).mono ?_; rintro e w' ⟨rfl, rfl⟩))
  have hb := below_box hw1
  go_ret2
  exact ⟨w1.heap.size, hb.size, rfl, Blk.new _ _ _, hb.alloc hb.size _⟩
theorem new_arg (B P ph : Int) (w : World) (h : ¬ (1 ≤ B ∧ B ≤ P ∧ P ≤ 1099511627776)) :
    Calls Try.prog 21 #[.agg #[.int .u64 B, .int .u64 P], .int .u64 ph] w fun r w' => r = .returned (.tuple #[.pointer none, .int .i64 1]) ∧ Below w.heap.size w w' := by
  go_enter Try.func21, Try.ntmps21
  go_wp2_with (go_at_call 22; refine (may_no B P _ h).mono ?_; rintro e w1 ⟨rfl, hw1⟩; have c0 := boxed hw1 0; have c1 := boxed hw1 1; simp at c0 c1)
  go_ret2
  exact ⟨rfl, below_box hw1⟩
theorem new_hor (B P ph : Int) (w : World) (h : 1 ≤ B ∧ B ≤ P ∧ P ≤ 1099511627776) (hp : ¬ ph < 4611686018427387904) :
    Calls Try.prog 21 #[.agg #[.int .u64 B, .int .u64 P], .int .u64 ph] w fun r w' => r = .returned (.tuple #[.pointer none, .int .i64 2]) ∧ Below w.heap.size w w' := by
  go_enter Try.func21, Try.ntmps21
  go_wp2_with (first | (go_at_call 22; refine (may_yes B P _ h).mono ?_; rintro e w1 ⟨rfl, hw1⟩; have c0 := boxed hw1 0; have c1 := boxed hw1 1; simp at c0 c1) | (go_at_call 25; refine (tmay_no _ _ (by omega)).mono ?_; rintro e w' ⟨rfl, rfl⟩))
  go_ret2
  exact ⟨rfl, below_box hw1⟩
/-- The bound of a span. -/
def mst (B P s : Int) : Int := mn (B * (tUp s P + 1)) s
theorem mul_bd {B P s : Int} (h : 1 ≤ B ∧ B ≤ P ∧ P ≤ 1099511627776) (h0 : 0 ≤ s) : 0 ≤ B * (tUp s P + 1) ∧ B * (tUp s P + 1) ≤ s + 2 * P := by
  have hu := tUp_nonneg h0 (show 1 ≤ P by omega)
  have hl := tUp_least (n := s) (show 1 ≤ P by omega)
  refine ⟨Int.mul_nonneg (by omega) (by omega), ?_⟩
  have h1 : B * (tUp s P + 1) ≤ P * (tUp s P + 1) := Int.mul_le_mul_of_nonneg_right h.2.1 (by omega)
  have h2 : P * (tUp s P + 1) = (tUp s P - 1) * P + 2 * P := by rw [Int.sub_mul, Int.mul_add, Int.mul_comm P]; omega
  omega
theorem take_g (b : Nat) (B P ph N W T now n K t v : Int) (w : World) (hb : Mk w b B P ph N W T) (ho : MOK B P ph N W T) (h1 : N ≤ now) (h2 : now < 4611686018427387904) (hn : 0 ≤ n) (hK : (now - ph) / P = K) (ht : tkn W T K = t) (hv : mn n (B - t) = v) :
    Calls Try.prog 38 #[.pointer (some ⟨b, 0, none⟩), .int .u64 now, .int .u64 n] w fun e w' => e = .returned (.tuple #[.int .u64 v, .int .i64 0]) ∧ Mk w' b B P ph now K (t + v) ∧ Only b w w' := by
  subst hK; subst ht; subst hv; exact take_ok b B P ph N W T now n w hb ho h1 h2 hn
theorem left_g (b : Nat) (B P ph N W T now K t v : Int) (w : World) (hb : Mk w b B P ph N W T) (ho : MOK B P ph N W T) (h1 : N ≤ now) (h2 : now < 4611686018427387904) (hK : (now - ph) / P = K) (ht : tkn W T K = t) (hv : B - t = v) :
    Calls Try.prog 37 #[.pointer (some ⟨b, 0, none⟩), .int .u64 now] w fun e w' => e = .returned (.tuple #[.int .u64 v, .int .i64 0]) ∧ Mk w' b B P ph now K t ∧ Only b w w' := by
  subst hK; subst ht; subst hv; exact left_ok b B P ph N W T now w hb ho h1 h2
/-- Windows and times. -/
theorem win_at {ph P k : Int} (hP : 1 ≤ P) : (ph + k * P - ph) / P = k := by
  rw [show ph + k * P - ph = k * P by omega, Int.mul_ediv_cancel _ (by omega)]
theorem win_in {ph P k d : Int} (hd : 0 ≤ d) (hd2 : d < P) : (ph + k * P + d - ph) / P = k := by
  rw [show ph + k * P + d - ph = d + k * P by omega, Int.add_mul_ediv_right _ _ (by omega), Int.ediv_eq_zero_of_lt hd hd2]; omega
end Go.Proofs.Ytabocojmobbpaaa
