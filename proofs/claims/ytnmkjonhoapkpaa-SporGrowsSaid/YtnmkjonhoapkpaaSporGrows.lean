/-
  For every server and every two 32-bit spans SporGrows answers true, and changes nothing: of a longer span no less may be used, of a period the budget, of any span no more than its ticks. No condition.
-/
import Derived.Test.YtnmkjonhoapkpaaRows
import Derived.Test.YtnmkjonhoapkpaaFr
import Derived.Test.YtnmkjonhoapkpaaSporL
import Derived.Deep.RegionHeld3
namespace Go.Proofs.Ytnmkjonhoapkpaa.sporGrows
open Go.ChangeShapes Go.WideShapes Go.ChangeAt Go.RowKit
set_option linter.unusedVariables false
theorem own : ownKnob Try.prog.godebug = none := by kernel_rfl
theorem laid : laidOutB Try.prog = true := by kernel_rfl
set_option maxHeartbeats 4000000
theorem tUp_self {P : Int} (h : 1 ≤ P) : tUp P P = 1 := by
  unfold tUp
  rw [show P + P - 1 = (P - 1) + 1 * P by omega, Int.add_mul_ediv_right _ _ (by omega), Int.ediv_eq_zero_of_lt (by omega) (by omega)]; rfl
theorem smst_le {B P s : Int} : smst B P s ≤ s := by unfold smst; split <;> omega
theorem smst_mono {B P s t : Int} (h : SOK B P) (hst : s ≤ t) : smst B P s ≤ smst B P t := by
  unfold SOK at h
  have hu := tUp_mono (show 1 ≤ P by omega) hst
  have : B * tUp s P ≤ B * tUp t P := Int.mul_le_mul_of_nonneg_left hu (by omega)
  unfold smst; split <;> split <;> omega
theorem smst_period {B P : Int} (h : SOK B P) : smst B P P = B := by
  unfold SOK at h
  unfold smst; rw [tUp_self (by omega)]; split <;> omega
structure Kept (w w' : World) (g : Nat) (t : TypeId) (x y : Value) : Prop where
  below : Below w.heap.size w w'
  blk : Blk w' g t #[x, y]
theorem Kept.drew {w w' : World} {g : Nat} {t : TypeId} {x y : Value} (h : Kept w w' g t x y) : Kept w w'.drew g t x y := ⟨h.below.drew, h.blk.drew⟩
theorem Kept.then {w w1 w2 : World} {g : Nat} {t : TypeId} {x y : Value} (h : Kept w w1 g t x y) (hb : Below w1.heap.size w1 w2) : w2.cell? ⟨g, 0, none⟩ = some x ∧ w2.cell? ⟨g, 1, none⟩ = some y ∧ Kept w w2 g t x y :=
  ⟨(h.blk.stay hb).two.1, (h.blk.stay hb).two.2, below_then h.below hb, h.blk.stay hb⟩
theorem Kept.then3 {w w1 w2 : World} {g : Nat} {t : TypeId} {x y : Value} (h : w1.cell? ⟨g, 0, none⟩ = some x ∧ w1.cell? ⟨g, 1, none⟩ = some y ∧ Kept w w1 g t x y) (hb : Below w1.heap.size w1 w2) : w2.cell? ⟨g, 0, none⟩ = some x ∧ w2.cell? ⟨g, 1, none⟩ = some y ∧ Kept w w2 g t x y := Kept.then h.2.2 hb
theorem below_conj {w w1 : World} {g : Nat} {t : TypeId} {x y : Value} (h : w1.cell? ⟨g, 0, none⟩ = some x ∧ w1.cell? ⟨g, 1, none⟩ = some y ∧ Kept w w1 g t x y) : Below w.heap.size w w1 := h.2.2.below
theorem two_stay {w w' : World} {g : Nat} {t : TypeId} {x y : Value} (h : Blk w g t #[x, y]) (hb : Below w.heap.size w w') : w'.cell? ⟨g, 0, none⟩ = some x ∧ w'.cell? ⟨g, 1, none⟩ = some y := (h.stay hb).two
theorem walk (B P a b : Int) (w : World) (bP : 0 ≤ P ∧ P ≤ 18446744073709551615) (ba : 0 ≤ a ∧ a ≤ 4294967295) (bb : 0 ≤ b ∧ b ≤ 4294967295) :
    Calls Try.prog 5 #[.agg #[.int .i64 B, .int .u64 P], .int .u32 a, .int .u32 b] w fun r w' => r = .returned (.bool true) ∧ Below w.heap.size w w' := by
  by_cases h : SOK B P
  · have hB : 1 ≤ B ∧ B ≤ 200 := ⟨h.1, h.2.1⟩
    have hPm : P ≤ 1099511627776 := h.2.2.2
    have hwB : IntKind.u64.wrap B = B := IntWalk.u64_in _ ⟨by omega, by omega⟩
    have l1 : smst B P a ≤ a := smst_le
    have l2 := smst_mono h (show a ≤ a + b by omega)
    have l3 := smst_mono h (show b ≤ a + b by omega)
    have x1 := Lib.hid fun w => smost_any B P a w h (by omega) (by omega)
    have x2 := Lib.hid fun w => smost_any B P b w h (by omega) (by omega)
    have x3 := Lib.hid fun w => smost_any B P (a + b) w h (by omega) (by omega)
    have x4 := fun w => smost_any B P P w h bP.1 hPm
    rw [smst_period h] at x4
    have X4 := Lib.hid x4
    clear x4
    generalize smst B P a = x at *
    generalize smst B P b = y at *
    generalize smst B P (a + b) = z at *
    have hP0 := bP.1
    have hwa : IntKind.u64.wrap a = a := IntWalk.u64_in _ ⟨by omega, by omega⟩
    have k1 : decide (x ≤ z) = true := decide_eq_true l2
    have k2 : decide (y ≤ z) = true := decide_eq_true l3
    have k3 : decide (x ≤ a) = true := decide_eq_true l1
    have k45 : (if x < y then y else x) = y ∨ (if x < y then y else x) = x := by split; exact Or.inl rfl; exact Or.inr rfl
    rcases k45 with k4 | k4
    all_goals go_enter Try.func5, Try.ntmps5
    all_goals go_wp2_with fail
    all_goals refine (awake_any _).mono ?_
    all_goals rintro r w1 ⟨rfl, hw1⟩
    all_goals have hx1 := boxed_blk hw1
    all_goals obtain ⟨c1, e1⟩ := hx1.two
    all_goals have hs1 := below_box hw1
    all_goals go_wp2_with fail
    all_goals refine (x1.out _).mono ?_
    all_goals rintro r w2 ⟨rfl, hw2⟩
    all_goals have hx2 := hx1.stay hw2
    all_goals obtain ⟨c2, e2⟩ := hx2.two
    all_goals have hs2 := below_then hs1 hw2
    all_goals go_wp2_with fail
    all_goals refine (x2.out _).mono ?_
    all_goals rintro r w3 ⟨rfl, hw3⟩
    all_goals have hx3 := hx2.stay hw3
    all_goals obtain ⟨c3, e3⟩ := hx3.two
    all_goals have hs3 := below_then hs2 hw3
    all_goals go_wp2_with fail
    all_goals refine (x3.out _).mono ?_
    all_goals rintro r w4 ⟨rfl, hw4⟩
    all_goals have hx4 := hx3.stay hw4
    all_goals obtain ⟨c4, e4⟩ := hx4.two
    all_goals have hs4 := below_then hs3 hw4
    all_goals go_wp2_with fail
    all_goals refine (smay_yes B P _ h).mono ?_
    all_goals rintro r w5 ⟨rfl, hw5⟩
    all_goals have hx5 := hx4.stay hw5
    all_goals obtain ⟨c5, e5⟩ := hx5.two
    all_goals have hs5 := below_then hs4 hw5
    all_goals clear c1 e1 c2 e2 c3 e3 c4 e4 hw1 hw2 hw3 hw4 hw5 hx1 hx2 hx3 hx4
    all_goals go_wp2_with fail
    all_goals have hk5 : Kept w w5 w.heap.size 24 (.int .i64 B) (.int .u64 P) := ⟨hs5, hx5⟩
    all_goals go_region_held3 (fun w' => w'.cell? ⟨w.heap.size, 0, none⟩ = some (.int .i64 B) ∧ w'.cell? ⟨w.heap.size, 1, none⟩ = some (.int .u64 P) ∧ Kept w w' w.heap.size 24 (.int .i64 B) (.int .u64 P))
      (first | exact ⟨c5, e5, hk5⟩ | exact ⟨by assumption, by assumption, by assumption⟩ | exact ⟨by assumption, by assumption, Kept.drew (by assumption)⟩)
      (first | (go_at_call 11; refine (X4.out _).mono ?_; rintro r w6 ⟨rfl, hw6⟩; obtain ⟨c6, e6, hk6⟩ := Kept.then3 (w := w) (g := w.heap.size) (t := 24) (x := .int .i64 B) (y := .int .u64 P) (by assumption) hw6))
    all_goals go_wp2_with fail
    all_goals go_ret
    all_goals first | exact ⟨rfl, Kept.below (by assumption)⟩ | exact ⟨rfl, below_conj (w := w) (g := w.heap.size) (t := 24) (x := .int .i64 B) (y := .int .u64 P) (by assumption)⟩
  · have x1 := Lib.hid fun w => smost_none B P a w (Or.inl h) bP.2
    have x2 := Lib.hid fun w => smost_none B P b w (Or.inl h) bP.2
    have x3 := Lib.hid fun w => smost_none B P (a + b) w (Or.inl h) bP.2
    go_enter Try.func5, Try.ntmps5
    go_wp2_with fail
    refine (awake_any _).mono ?_
    rintro r w1 ⟨rfl, hw1⟩
    have hx1 := boxed_blk hw1
    obtain ⟨c1, e1⟩ := hx1.two
    have hs1 := below_box hw1
    go_wp2_with fail
    refine (x1.out _).mono ?_
    rintro r w2 ⟨rfl, hw2⟩
    have hx2 := hx1.stay hw2
    obtain ⟨c2, e2⟩ := hx2.two
    have hs2 := below_then hs1 hw2
    go_wp2_with fail
    refine (x2.out _).mono ?_
    rintro r w3 ⟨rfl, hw3⟩
    have hx3 := hx2.stay hw3
    obtain ⟨c3, e3⟩ := hx3.two
    have hs3 := below_then hs2 hw3
    go_wp2_with fail
    refine (x3.out _).mono ?_
    rintro r w4 ⟨rfl, hw4⟩
    have hx4 := hx3.stay hw4
    obtain ⟨c4, e4⟩ := hx4.two
    have hs4 := below_then hs3 hw4
    go_wp2_with fail
    refine (smay_no B P _ h bP.2).mono ?_
    rintro r w5 ⟨rfl, hw5⟩
    have hs5 := below_then hs4 hw5
    go_wp2_with fail
    go_ret
    exact ⟨rfl, hs5⟩

set_option maxRecDepth 100000 in
theorem lifted (os : Os) (started : os.Started) (H : Type) (enc : TypeId × Value → H) :
    ReturnsInHanded {} Try.checked os 5 .any (Rows.sporGrowsSpec.pre6 enc Try.prog Try.f5 Rows.sporGrowsRow.domain false) (Rows.sporGrowsSpec.post enc Try.prog Try.f5 false true false false) := by
  refine law_lifted (C := Try.checked) (tb := 4) own started (by kernel_rfl) Try.func5
    (ChangeSpec.witness6 (enc := enc) (C := Try.checked) false ⟨#[], #[.agg #[.int .i64 0, .int .u64 0], .int .u32 0, .int .u32 0], []⟩ 8 (by kernel_rfl) (by kernel_rfl) (by kernel_rfl) (by kernel_rfl)) laid (by kernel_rfl) (by kernel_rfl) Try.underlying4 rfl ?_
  intro W base args ds ps hval0 hA0 hlt
  have hval : ∀ (j : Nat) t v, Try.f5.params[j]? = some t → args[j]? = some v → Value.okWide Try.prog W .any base t v := hval0
  have hA : DataW.TrodAll enc Try.prog W 0 (fun _ => true) true Try.f5.params.toList args.toList ds ps := hA0
  clear hA0 hval0
  rw [Try.params5] at hA hval
  obtain ⟨v0, vs0, d0, ds0, p0, q0, hargs, rfl, rfl, h0, r0⟩ := trodAll_cons hA
  obtain ⟨v1, vs1, d1, ds1, p1, q1, rfl, rfl, rfl, h1, r1⟩ := trodAll_cons r0
  obtain ⟨v2, vs2, d2, ds2, p2, q2, rfl, rfl, rfl, h2, r2⟩ := trodAll_cons r1
  obtain ⟨rfl, rfl, rfl⟩ := trodAll_nil r2
  obtain rfl : args = #[v0, v1, v2] := by cases args; simp_all
  obtain ⟨cs0, rfl, sz0, ok0⟩ := open_flat (ts := [3, 22]) (Or.inl ⟨_, Try.underlying24⟩) (by kernel_rfl) (by kernel_rfl) (hval 0 24 v0 rfl rfl)
  obtain ⟨c0_0, c0_1, rfl⟩ := size2 sz0
  obtain ⟨a0_0, rfl, w0_0⟩ := cell_int Try.underlying3 (ok0 0 _ _ rfl rfl)
  obtain ⟨a0_1, rfl, w0_1⟩ := cell_int Try.underlying22 (ok0 1 _ _ rfl rfl)
  obtain ⟨a1, rfl, rfl, rfl, w1⟩ := open_int Try.underlying43 (hval 1 43 v1 rfl rfl) h1
  obtain ⟨a2, rfl, rfl, rfl, w2⟩ := open_int Try.underlying43 (hval 2 43 v2 rfl rfl) h2
  refine ⟨⟨rfl, rfl, rfl⟩, ?_⟩
  have b0 := bounds_u64 w0_1
  have b1 := bounds_u32 w1
  have b2 := bounds_u32 w2
  exact walk a0_0 a0_1 a1 a2 W b0 b1 b2

theorem over : Rows.sporGrowsRow.holds Try.pinned (OpenSpec.ofChange Rows.sporGrowsSpec) :=
  OpenClaim.holds_of_wide 5 Try.f5 rfl rfl rfl rfl rfl rfl rfl ⟨rfl, rfl, rfl, rfl, rfl⟩ rfl rfl rfl rfl rfl (by kernel_rfl) Try.func5 (by kernel_rfl)
    (of_decide_eq_true (by kernel_rfl)) (by unfold Func.isWrapper; first | (rw [if_pos (by decide +kernel)]; kernel_rfl) | (rw [if_neg (by decide +kernel)]; exact ⟨rfl, rfl⟩))
    (fun os started H enc _ => lifted os started H enc)
theorem proved : Rows.SporGrowsSaid := over
#print axioms proved
end Go.Proofs.Ytnmkjonhoapkpaa.sporGrows
