/-
  For every depth, every rate and every two 32-bit spans BucketMosts answers true, and changes nothing: of a longer span no less may be taken, of a span without ticks the depth and one more. No condition.
-/
import Derived.Test.YtllkhelklgdjeaaRows
import Derived.Test.YtllkhelklgdjeaaFr
import Derived.Test.YtllkhelklgdjeaaBuckL
namespace Go.Proofs.Ytllkhelklgdjeaa.bucketMosts
open Go.ChangeShapes Go.WideShapes Go.ChangeAt Go.RowKit
set_option linter.unusedVariables false
theorem own : ownKnob Try.prog.godebug = none := by kernel_rfl
theorem laid : laidOutB Try.prog = true := by kernel_rfl
theorem grows {a b e : Int} (h0 : 0 ≤ a) (h1 : 0 ≤ b) (he : 1 ≤ e) : a / e ≤ (a + b) / e ∧ (a + b) / e ≤ a / e + b / e + 1 := by
  refine ⟨Int.ediv_le_ediv (by omega) (by omega), ?_⟩
  have e1 := Int.mul_ediv_add_emod a e
  have e2 := Int.mul_ediv_add_emod b e
  have r1 := Int.emod_lt_of_pos a (show 0 < e by omega)
  have r2 := Int.emod_lt_of_pos b (show 0 < e by omega)
  refine Int.le_of_lt_add_one (Int.ediv_lt_of_lt_mul (by omega) ?_)
  rw [Int.mul_comm, show e * (a / e + b / e + 1 + 1) = e * (a / e) + e * (b / e) + 2 * e by rw [Int.mul_add, Int.mul_add, Int.mul_add]; omega]
  omega
theorem walk (d e a b : Int) (w : World) (bd : -9223372036854775808 ≤ d ∧ d ≤ 9223372036854775807) (be : 0 ≤ e ∧ e ≤ 18446744073709551615) (ba : 0 ≤ a ∧ a ≤ 4294967295) (bb : 0 ≤ b ∧ b ≤ 4294967295) :
    Calls Try.prog 6 #[.int .i64 d, .int .u64 e, .agg #[.int .u32 a, .int .u32 b]] w fun r w' => r = .returned (.bool true) ∧ Below w.heap.size w w' := by
  by_cases h : 1 ≤ d ∧ d ≤ 1000 ∧ 1 ≤ e ∧ e ≤ 1099511627776
  · obtain ⟨g1, g2⟩ := grows ba.1 bb.1 h.2.2.1
    have q0 : 0 ≤ a / e := Int.ediv_nonneg (by omega) (by omega)
    have q1 : a / e ≤ a := Int.ediv_le_self _ (by omega)
    have q2 : 0 ≤ b / e := Int.ediv_nonneg (by omega) (by omega)
    have q3 : b / e ≤ b := Int.ediv_le_self _ (by omega)
    have q4 : (a + b) / e ≤ a + b := Int.ediv_le_self _ (by omega)
    have z0 : (e == 0) = false := beq_eq_false_iff_ne.2 (by omega)
    have m0 := Lib.hid fun w => most_any d e a w h (by omega) (by omega)
    have m1 := Lib.hid fun w => most_any d e (a + b) w h (by omega) (by omega)
    have m2 := fun w => most_any d e 0 w h (by omega) (by omega)
    rw [Int.zero_ediv, Int.add_zero] at m2
    have m2 := Lib.hid m2
    have m3 := Lib.hid fun w => most_none d e 2199023255552 w (Or.inr (by omega))
    generalize a / e = x at *
    generalize (a + b) / e = y at *
    go_enter Try.func6, Try.ntmps6
    go_wp2_with (first | (go_at_call 8; refine (awake_any _).mono ?_; rintro r w1 ⟨rfl, hw⟩; have c0 := boxed hw 0; have c1 := boxed hw 1; simp at c0 c1) | (go_at_call 12; ((with_reducible refine (m0.out _).mono ?_); rintro r w' ⟨rfl, rfl⟩)) | (go_at_call 12; ((with_reducible refine (m1.out _).mono ?_); rintro r w' ⟨rfl, rfl⟩)) | (go_at_call 12; ((with_reducible refine (m2.out _).mono ?_); rintro r w' ⟨rfl, rfl⟩)) | (go_at_call 12; ((with_reducible refine (m3.out _).mono ?_); rintro r w' ⟨rfl, rfl⟩)) | (go_at_call 9; refine (new_ok _ _ _ h).mono ?_; rintro r w' ⟨rfl, _, _, hn⟩))
    go_ret
    exact ⟨rfl, (below_box hw).trans (hn.mono (below_box hw).size)⟩
  · have m0 := Lib.hid fun w => most_none d e a w (Or.inl h)
    have m1 := Lib.hid fun w => most_none d e (a + b) w (Or.inl h)
    go_enter Try.func6, Try.ntmps6
    go_wp2_with (first | (go_at_call 8; refine (awake_any _).mono ?_; rintro r w1 ⟨rfl, hw⟩; have c0 := boxed hw 0; have c1 := boxed hw 1; simp at c0 c1) | (go_at_call 12; ((with_reducible refine (m0.out _).mono ?_); rintro r w' ⟨rfl, rfl⟩)) | (go_at_call 12; ((with_reducible refine (m1.out _).mono ?_); rintro r w' ⟨rfl, rfl⟩)) | (go_at_call 9; refine (new_no _ _ _ h).mono ?_; rintro r w' ⟨rfl, rfl⟩))
    go_ret
    exact ⟨rfl, below_box hw⟩

set_option maxRecDepth 100000 in
theorem lifted (os : Os) (started : os.Started) (H : Type) (enc : TypeId × Value → H) :
    ReturnsInHanded {} Try.checked os 6 .any (Rows.bucketMostsSpec.pre6 enc Try.prog Try.f6 Rows.bucketMostsRow.domain false) (Rows.bucketMostsSpec.post enc Try.prog Try.f6 false true false false) := by
  refine law_lifted (C := Try.checked) (tb := 4) own started (by kernel_rfl) Try.func6
    (ChangeSpec.witness6 (enc := enc) (C := Try.checked) false ⟨#[], #[.int .i64 0, .int .u64 0, .agg #[.int .u32 0, .int .u32 0]], []⟩ 8 (by kernel_rfl) (by kernel_rfl) (by kernel_rfl) (by kernel_rfl)) laid (by kernel_rfl) (by kernel_rfl) Try.underlying4 rfl ?_
  intro W base args ds ps hval0 hA0 hlt
  have hval : ∀ (j : Nat) t v, Try.f6.params[j]? = some t → args[j]? = some v → Value.okWide Try.prog W .any base t v := hval0
  have hA : DataW.TrodAll enc Try.prog W 0 (fun _ => true) true Try.f6.params.toList args.toList ds ps := hA0
  clear hA0 hval0
  rw [Try.params6] at hA hval
  obtain ⟨v0, vs0, d0, ds0, p0, q0, hargs, rfl, rfl, h0, r0⟩ := trodAll_cons hA
  obtain ⟨v1, vs1, d1, ds1, p1, q1, rfl, rfl, rfl, h1, r1⟩ := trodAll_cons r0
  obtain ⟨v2, vs2, d2, ds2, p2, q2, rfl, rfl, rfl, h2, r2⟩ := trodAll_cons r1
  obtain ⟨rfl, rfl, rfl⟩ := trodAll_nil r2
  obtain rfl : args = #[v0, v1, v2] := by cases args; simp_all
  obtain ⟨a0, rfl, rfl, rfl, w0⟩ := open_int Try.underlying3 (hval 0 3 v0 rfl rfl) h0
  obtain ⟨a1, rfl, rfl, rfl, w1⟩ := open_int Try.underlying28 (hval 1 28 v1 rfl rfl) h1
  obtain ⟨cs2, rfl, sz2, ok2⟩ := open_flat (ts := [41, 41]) (Or.inr ⟨_, _, Try.underlying42⟩) (by kernel_rfl) (by kernel_rfl) (hval 2 42 v2 rfl rfl)
  obtain ⟨c2_0, c2_1, rfl⟩ := size2 sz2
  obtain ⟨a2_0, rfl, w2_0⟩ := cell_int Try.underlying41 (ok2 0 _ _ rfl rfl)
  obtain ⟨a2_1, rfl, w2_1⟩ := cell_int Try.underlying41 (ok2 1 _ _ rfl rfl)
  refine ⟨⟨rfl, rfl, rfl⟩, ?_⟩
  have b0 := bounds_i64 w0
  have b1 := bounds_u64 w1
  have b2 := bounds_u32 w2_0
  have b3 := bounds_u32 w2_1
  exact walk a0 a1 a2_0 a2_1 W b0 b1 b2 b3

theorem over : Rows.bucketMostsRow.holds Try.pinned (OpenSpec.ofChange Rows.bucketMostsSpec) :=
  OpenClaim.holds_of_wide 6 Try.f6 rfl rfl rfl rfl rfl rfl rfl ⟨rfl, rfl, rfl, rfl, rfl⟩ rfl rfl rfl rfl rfl (by kernel_rfl) Try.func6 (by kernel_rfl)
    (of_decide_eq_true (by kernel_rfl)) (by unfold Func.isWrapper; first | (rw [if_pos (by decide +kernel)]; kernel_rfl) | (rw [if_neg (by decide +kernel)]; exact ⟨rfl, rfl⟩))
    (fun os started H enc _ => lifted os started H enc)
theorem proved : Rows.BucketMostsSaid := over
#print axioms proved
end Go.Proofs.Ytllkhelklgdjeaa.bucketMosts
