/-
  For every share, every 32-bit span and every 16-bit number ShareGrows answers true, and changes nothing: of a longer span no less may be taken, nor more than one a tick more. No condition.
-/
import Derived.Test.YtlmfcdfodlcjaaaRows
import Derived.Test.YtlmfcdfodlcjaaaFr
import Derived.Test.YtlmfcdfodlcjaaaShareL
namespace Go.Proofs.Ytlmfcdfodlcjaaa.shareGrows
open Go.ChangeShapes Go.WideShapes Go.ChangeAt Go.RowKit
set_option linter.unusedVariables false
theorem own : ownKnob Try.prog.godebug = none := by kernel_rfl
theorem laid : laidOutB Try.prog = true := by kernel_rfl
theorem mst_le {B P s : Int} (h : 1 ≤ B ∧ B ≤ P ∧ P ≤ 1099511627776) (h0 : 0 ≤ s) : 0 ≤ mst B P s ∧ mst B P s ≤ s := by
  have := mn_bd (n := B * (tUp s P + 1)) (l := s) (mul_bd h h0).1 h0
  exact ⟨this.1, this.2.1⟩
theorem mst_mono {B P s t : Int} (h : 1 ≤ B ∧ B ≤ P ∧ P ≤ 1099511627776) (hst : s ≤ t) : mst B P s ≤ mst B P t := by
  have hu := tUp_mono (show 1 ≤ P by omega) hst
  have : B * (tUp s P + 1) ≤ B * (tUp t P + 1) := Int.mul_le_mul_of_nonneg_left (by omega) (by omega)
  unfold mst mn; split <;> split <;> omega
theorem tUp_1 {P : Int} (h : 1 ≤ P) : tUp 1 P = 1 := by
  unfold tUp; rw [show 1 + P - 1 = P by omega, Int.ediv_self (by omega)]
theorem tUp_0 {P : Int} (h : 1 ≤ P) : tUp 0 P = 0 := by
  unfold tUp; exact Int.ediv_eq_zero_of_lt (by omega) (by omega)
theorem mst_0 {B P : Int} (h : 1 ≤ B ∧ B ≤ P ∧ P ≤ 1099511627776) : mst B P 0 = 0 := by
  unfold mst mn; rw [tUp_0 (by omega)]; split <;> omega
theorem mst_1 {B P : Int} (h : 1 ≤ B ∧ B ≤ P ∧ P ≤ 1099511627776) : mst B P 1 = 1 := by
  unfold mst mn; rw [tUp_1 (by omega)]; split <;> omega
theorem walk (B P s m : Int) (w : World) (bB : 0 ≤ B ∧ B ≤ 18446744073709551615) (bP : 0 ≤ P ∧ P ≤ 18446744073709551615) (bs : 0 ≤ s ∧ s ≤ 4294967295) (bm : 0 ≤ m ∧ m ≤ 65535) :
    Calls Try.prog 6 #[.agg #[.int .u64 B, .int .u64 P], .int .u32 s, .int .u16 m] w fun r w' => r = .returned (.bool true) ∧ Below w.heap.size w w' := by
  by_cases h : 1 ≤ B ∧ B ≤ P ∧ P ≤ 1099511627776
  · have l1 := mst_le h bs.1
    have l2 := mst_mono h (show s ≤ s + m by omega)
    have l3 := (mst_le h (show 0 ≤ s + m by omega)).2
    have x1 := Lib.hid fun w => most_any B P s w h (by omega) (by omega)
    have x2 := Lib.hid fun w => most_any B P (s + m) w h (by omega) (by omega)
    have x3 := fun w => most_any B P 0 w h (by omega) (by omega)
    have x4 := fun w => most_any B P 1 w h (by omega) (by omega)
    rw [mst_0 h] at x3
    rw [mst_1 h] at x4
    have X3 := Lib.hid x3
    have X4 := Lib.hid x4
    clear x3 x4
    generalize mst B P s = u at *
    generalize mst B P (s + m) = v at *
    go_enter Try.func6, Try.ntmps6
    go_wp2_with fail
    refine (awake_any _).mono ?_
    rintro r w1 ⟨rfl, hw1⟩
    have hx1 := boxed_blk hw1
    obtain ⟨c1, e1⟩ := hx1.two
    have hs1 := below_box hw1
    go_wp2_with fail
    refine (x1.out _).mono ?_
    rintro r w2 ⟨rfl, hw2⟩
    have hx2 := hx1.stay hw2
    obtain ⟨c2, e2⟩ := hx2.two
    have hs2 := below_then hs1 hw2
    go_wp2_with fail
    refine (x2.out _).mono ?_
    rintro r w3 ⟨rfl, hw3⟩
    have hx3 := hx2.stay hw3
    obtain ⟨c3, e3⟩ := hx3.two
    have hs3 := below_then hs2 hw3
    go_wp2_with fail
    refine (may_yes B P _ h).mono ?_
    rintro r w4 ⟨rfl, hw4⟩
    have hx4 := hx3.stay hw4
    obtain ⟨c4, e4⟩ := hx4.two
    have hs4 := below_then hs3 hw4
    go_wp2_with fail
    refine (X3.out _).mono ?_
    rintro r w5 ⟨rfl, hw5⟩
    have hx5 := hx4.stay hw5
    obtain ⟨c5, e5⟩ := hx5.two
    have hs5 := below_then hs4 hw5
    go_wp2_with fail
    refine (X4.out _).mono ?_
    rintro r w6 ⟨rfl, hw6⟩
    have hx6 := hx5.stay hw6
    obtain ⟨c6, e6⟩ := hx6.two
    have hs6 := below_then hs5 hw6
    go_wp2_with fail
    go_ret
    exact ⟨rfl, hs6⟩
  · have x1 := Lib.hid fun w => most_none B P s w (Or.inl h)
    have x2 := Lib.hid fun w => most_none B P (s + m) w (Or.inl h)
    go_enter Try.func6, Try.ntmps6
    go_wp2_with fail
    refine (awake_any _).mono ?_
    rintro r w1 ⟨rfl, hw1⟩
    have hx1 := boxed_blk hw1
    obtain ⟨c1, e1⟩ := hx1.two
    have hs1 := below_box hw1
    go_wp2_with fail
    refine (x1.out _).mono ?_
    rintro r w2 ⟨rfl, hw2⟩
    have hx2 := hx1.stay hw2
    obtain ⟨c2, e2⟩ := hx2.two
    have hs2 := below_then hs1 hw2
    go_wp2_with fail
    refine (x2.out _).mono ?_
    rintro r w3 ⟨rfl, hw3⟩
    have hx3 := hx2.stay hw3
    obtain ⟨c3, e3⟩ := hx3.two
    have hs3 := below_then hs2 hw3
    go_wp2_with fail
    refine (may_no B P _ h).mono ?_
    rintro r w4 ⟨rfl, hw4⟩
    have hx4 := hx3.stay hw4
    obtain ⟨c4, e4⟩ := hx4.two
    have hs4 := below_then hs3 hw4
    go_wp2_with fail
    go_ret
    exact ⟨rfl, hs4⟩

set_option maxRecDepth 100000 in
theorem lifted (os : Os) (started : os.Started) (H : Type) (enc : TypeId × Value → H) :
    ReturnsInHanded {} Try.checked os 6 .any (Rows.shareGrowsSpec.pre6 enc Try.prog Try.f6 Rows.shareGrowsRow.domain false) (Rows.shareGrowsSpec.post enc Try.prog Try.f6 false true false false) := by
  refine law_lifted (C := Try.checked) (tb := 4) own started (by kernel_rfl) Try.func6
    (ChangeSpec.witness6 (enc := enc) (C := Try.checked) false ⟨#[], #[.agg #[.int .u64 0, .int .u64 0], .int .u32 0, .int .u16 0], []⟩ 8 (by kernel_rfl) (by kernel_rfl) (by kernel_rfl) (by kernel_rfl)) laid (by kernel_rfl) (by kernel_rfl) Try.underlying4 rfl ?_
  intro W base args ds ps hval0 hA0 hlt
  have hval : ∀ (j : Nat) t v, Try.f6.params[j]? = some t → args[j]? = some v → Value.okWide Try.prog W .any base t v := hval0
  have hA : DataW.TrodAll enc Try.prog W 0 (fun _ => true) true Try.f6.params.toList args.toList ds ps := hA0
  clear hA0 hval0
  rw [Try.params6] at hA hval
  obtain ⟨v0, vs0, d0, ds0, p0, q0, hargs, rfl, rfl, h0, r0⟩ := trodAll_cons hA
  obtain ⟨v1, vs1, d1, ds1, p1, q1, rfl, rfl, rfl, h1, r1⟩ := trodAll_cons r0
  obtain ⟨v2, vs2, d2, ds2, p2, q2, rfl, rfl, rfl, h2, r2⟩ := trodAll_cons r1
  obtain ⟨rfl, rfl, rfl⟩ := trodAll_nil r2
  obtain rfl : args = #[v0, v1, v2] := by cases args; simp_all
  obtain ⟨cs0, rfl, sz0, ok0⟩ := open_flat (ts := [22, 22]) (Or.inl ⟨_, Try.underlying24⟩) (by kernel_rfl) (by kernel_rfl) (hval 0 24 v0 rfl rfl)
  obtain ⟨c0_0, c0_1, rfl⟩ := size2 sz0
  obtain ⟨a0_0, rfl, w0_0⟩ := cell_int Try.underlying22 (ok0 0 _ _ rfl rfl)
  obtain ⟨a0_1, rfl, w0_1⟩ := cell_int Try.underlying22 (ok0 1 _ _ rfl rfl)
  obtain ⟨a1, rfl, rfl, rfl, w1⟩ := open_int Try.underlying46 (hval 1 46 v1 rfl rfl) h1
  obtain ⟨a2, rfl, rfl, rfl, w2⟩ := open_int Try.underlying41 (hval 2 41 v2 rfl rfl) h2
  refine ⟨⟨rfl, rfl, rfl⟩, ?_⟩
  have b0 := bounds_u64 w0_0
  have b1 := bounds_u64 w0_1
  have b2 := bounds_u32 w1
  have b3 := bounds_u16 w2
  exact walk a0_0 a0_1 a1 a2 W b0 b1 b2 b3

theorem over : Rows.shareGrowsRow.holds Try.pinned (OpenSpec.ofChange Rows.shareGrowsSpec) :=
  OpenClaim.holds_of_wide 6 Try.f6 rfl rfl rfl rfl rfl rfl rfl ⟨rfl, rfl, rfl, rfl, rfl⟩ rfl rfl rfl rfl rfl (by kernel_rfl) Try.func6 (by kernel_rfl)
    (of_decide_eq_true (by kernel_rfl)) (by unfold Func.isWrapper; first | (rw [if_pos (by decide +kernel)]; kernel_rfl) | (rw [if_neg (by decide +kernel)]; exact ⟨rfl, rfl⟩))
    (fun os started H enc _ => lifted os started H enc)
theorem proved : Rows.ShareGrowsSaid := over
#print axioms proved
end Go.Proofs.Ytlmfcdfodlcjaaa.shareGrows
