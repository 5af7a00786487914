/-
  For every share, every 16-bit phase and every slice of bools ShareFresh answers true, and changes nothing: in each window as many units may be taken as the budget, and then none till the next one begins. No condition.
-/
import Derived.Test.YtlmfcdfodlcjaaaRows
import Derived.Test.YtlmfcdfodlcjaaaFr
import Derived.Test.YtlmfcdfodlcjaaaShareL
import Derived.LoopTactic
namespace Go.Proofs.Ytlmfcdfodlcjaaa.shareFresh
open Go.ChangeShapes Go.WideShapes Go.ChangeAt Go.RowKit
set_option linter.unusedVariables false
theorem own : ownKnob Try.prog.godebug = none := by kernel_rfl
theorem laid : laidOutB Try.prog = true := by kernel_rfl
set_option maxRecDepth 100000
theorem walk (B P ph : Int) (A : Option Addr) (n cap : Nat) (f : Nat → Bool) (w : World) (bB : 0 ≤ B ∧ B ≤ 18446744073709551615) (bP : 0 ≤ P ∧ P ≤ 18446744073709551615) (bp : 0 ≤ ph ∧ ph ≤ 65535) (hm : n ≤ maxLen) (rd : Rd w A n (fun i => .bool (f i))) :
    Calls Try.prog 5 #[.agg #[.int .u64 B, .int .u64 P], .int .u16 ph, .slice A n cap] w fun r w' => r = .returned (.bool true) ∧ Below w.heap.size w w' := by
  unfold maxLen at hm
  by_cases h : 1 ≤ B ∧ B ≤ P ∧ P ≤ 1099511627776
  · by_cases hq : 1048576 < P
    · have d1 : decide (1048576 < P) = true := decide_eq_true hq
      go_enter Try.func5, Try.ntmps5
      go_wp2_with fail
      refine (awake_any _).mono ?_
      rintro r w1 ⟨rfl, hw1⟩
      have hx1 := boxed_blk hw1
      obtain ⟨c1, e1⟩ := hx1.two
      have hs1 := below_box hw1
      go_wp2_with fail
      refine (may_yes B P _ h).mono ?_
      rintro r w2 ⟨rfl, hw2⟩
      have hx2 := hx1.stay hw2
      obtain ⟨c2, e2⟩ := hx2.two
      go_wp2_with fail
      go_ret
      exact ⟨rfl, below_then hs1 hw2⟩
    · have d1 : decide (1048576 < P) = false := decide_eq_false hq
      go_enter Try.func5, Try.ntmps5
      go_wp2_with fail
      refine (awake_any _).mono ?_
      rintro r w1 ⟨rfl, hw1⟩
      have hx1 := boxed_blk hw1
      obtain ⟨c1, e1⟩ := hx1.two
      have hs1 := below_box hw1
      go_wp2_with fail
      refine (may_yes B P _ h).mono ?_
      rintro r w2 ⟨rfl, hw2⟩
      have hx2 := hx1.stay hw2
      obtain ⟨c2, e2⟩ := hx2.two
      have hs2 := below_then hs1 hw2
      go_wp2_with fail
      refine (new_ok B P ph _ h (by omega)).mono ?_
      rintro r w3 ⟨b, hB, rfl, hb3, hw3⟩
      have hx3 := hx2.stay hw3
      obtain ⟨c3, e3⟩ := hx3.two
      have hs3 := below_then hs2 hw3
      have hbB : w.heap.size ≤ b := Nat.le_trans hs2.size hB
      have hbn : w.heap.size ≠ b := by have := hx2.lt; omega
      clear c1 e1 c2 e2 c3 e3
      go_wp2_with fail
      go_loopw [9] (fun i wr => ∃ k : Nat, ∃ N W T : Int, k ≤ 20 ∧ i = .int .i64 k ∧ ph ≤ N ∧ N ≤ ph + k * P ∧ 0 ≤ T ∧ T ≤ B ∧ (T = 0 ∨ W < k) ∧ Mk wr b B P ph N W T ∧ Blk wr w.heap.size 24 #[.int .u64 B, .int .u64 P] ∧ Below w.heap.size w wr) (fun i _ => 20 - (intOf i).toNat)
      case atStart => exact ⟨0, ph, 0, 0, by omega, rfl, by omega, by simp, by omega, by omega, Or.inl rfl, hb3, hx3, hs3⟩
      case round =>
        obtain ⟨k, N, W, T, hk, rfl, n0, n1, t0, t1, hf, hb, hx, hs⟩ := hrel
        by_cases hlt : k < 20
        · have p0 : 0 ≤ (k : Int) * P := Int.mul_nonneg (by omega) (by omega)
          have p1 : (k : Int) * P ≤ 20 * 1048576 := Int.mul_le_mul (by omega) (by omega) (by omega) (by omega)
          have ho : MOK B P ph N W T := ⟨by omega, by omega, by omega, by omega, by omega, by omega, by omega⟩
          have hoo : MOK B P ph (ph + k * P) k B := ⟨by omega, by omega, by omega, by omega, by omega, by omega, by omega⟩
          have HK := Lib.hid (win_at (ph := ph) (P := P) (k := k) (by omega))
          have HK3 := Lib.hid (show (ph + k * P + P - 1 - ph) / P = k by rw [show ph + (k : Int) * P + P - 1 = ph + k * P + (P - 1) by omega]; exact win_in (by omega) (by omega))
          have HT := Lib.hid (show tkn W T k = 0 by unfold tkn; rcases hf with h | h <;> split <;> omega)
          have HT2 := Lib.hid (show tkn k B k = B from if_pos rfl)
          have HV := Lib.hid (show mn (B + 5) (B - 0) = B by unfold mn; split <;> omega)
          by_cases hn0 : n = 0
          · subst hn0
            clear hf rd
            obtain ⟨c0, e0⟩ := hx.two
            go_wp2_with fail
            refine (take_g b B P ph N W T (ph + k * P) (B + 5) k 0 B _ hb ho (by omega) (by omega) (by omega) HK.out HT.out HV.out).mono ?_
            rintro r w4 ⟨rfl, hb4, ho4⟩
            rw [Int.zero_add] at hb4
            have hx4 := ho4.blk hx hbn
            obtain ⟨c4, e4⟩ := hx4.two
            have hs4 := below_only hs ho4 hbB (Nat.le_refl _)
            go_wp2_with fail
            refine (wait_g b B P ph (ph + k * P) k B (ph + k * P) k (ph + k * P + P) _ hb4 hoo (by omega) (by omega) HK.out HT2.out rfl (by omega)).mono ?_
            rintro r w5 ⟨rfl, hb5, ho5⟩
            have hx5 := ho5.blk hx4 hbn
            obtain ⟨c5, e5⟩ := hx5.two
            have hs5 := below_only hs4 ho5 hbB (Nat.le_refl _)
            go_wp2_with fail
            refine (left_g b B P ph (ph + k * P) k B (ph + k * P + P - 1) k B 0 _ hb5 hoo (by omega) (by omega) HK3.out HT2.out (by omega)).mono ?_
            rintro r w6 ⟨rfl, hb6, ho6⟩
            have hx6 := ho6.blk hx5 hbn
            obtain ⟨c6, e6⟩ := hx6.two
            have hs6 := below_only hs5 ho6 hbB (Nat.le_refl _)
            clear c0 e0 c4 e4 c5 e5
            go_wp2
            go_roundw
            case rel => exact ⟨k + 1, ph + k * P + P - 1, k, B, by omega, by go_num, by omega, by rw [show (((k + 1 : Nat) : Int)) = (k : Int) + 1 by omega, Int.add_mul]; omega, by omega, by omega, Or.inr (by omega), hb6, hx6, hs6⟩
            case measure => simp [intOf]; omega
          · obtain ⟨sb, off, rfl, hsb, hcell⟩ := rd (by omega)
            have hkn : k % n < n := Nat.mod_lt _ (by omega)
            have hy : wr.cell? ⟨sb, off + k % n, none⟩ = some (.bool (f (k % n))) := (hs.cell (p := ⟨sb, off + k % n, none⟩) hsb).trans (hcell _ hkn)
            have hnp : 0 < n := by omega
            clear hcell hn0
            by_cases hfk : f (k % n) = true
            · rw [hfk] at hy
              obtain ⟨c0, e0⟩ := hx.two
              go_wp2
              go_roundw
              case rel => exact ⟨k + 1, N, W, T, by omega, by go_num, by omega, by rw [show (((k + 1 : Nat) : Int)) = (k : Int) + 1 by omega, Int.add_mul]; omega, by omega, by omega, by omega, hb, hx, hs⟩
              case measure => simp [intOf]; omega
            · have hfk : f (k % n) = false := by simpa using hfk
              rw [hfk] at hy
              clear hf
              obtain ⟨c0, e0⟩ := hx.two
              go_wp2_with fail
              refine (take_g b B P ph N W T (ph + k * P) (B + 5) k 0 B _ hb ho (by omega) (by omega) (by omega) HK.out HT.out HV.out).mono ?_
              rintro r w4 ⟨rfl, hb4, ho4⟩
              rw [Int.zero_add] at hb4
              have hx4 := ho4.blk hx hbn
              obtain ⟨c4, e4⟩ := hx4.two
              have hs4 := below_only hs ho4 hbB (Nat.le_refl _)
              go_wp2_with fail
              refine (wait_g b B P ph (ph + k * P) k B (ph + k * P) k (ph + k * P + P) _ hb4 hoo (by omega) (by omega) HK.out HT2.out rfl (by omega)).mono ?_
              rintro r w5 ⟨rfl, hb5, ho5⟩
              have hx5 := ho5.blk hx4 hbn
              obtain ⟨c5, e5⟩ := hx5.two
              have hs5 := below_only hs4 ho5 hbB (Nat.le_refl _)
              go_wp2_with fail
              refine (left_g b B P ph (ph + k * P) k B (ph + k * P + P - 1) k B 0 _ hb5 hoo (by omega) (by omega) HK3.out HT2.out (by omega)).mono ?_
              rintro r w6 ⟨rfl, hb6, ho6⟩
              have hx6 := ho6.blk hx5 hbn
              obtain ⟨c6, e6⟩ := hx6.two
              have hs6 := below_only hs5 ho6 hbB (Nat.le_refl _)
              clear c0 e0 c4 e4 c5 e5
              go_wp2
              go_roundw
              case rel => exact ⟨k + 1, ph + k * P + P - 1, k, B, by omega, by go_num, by omega, by rw [show (((k + 1 : Nat) : Int)) = (k : Int) + 1 by omega, Int.add_mul]; omega, by omega, by omega, Or.inr (by omega), hb6, hx6, hs6⟩
              case measure => simp [intOf]; omega
        · go_wp2
          go_ret
          exact ⟨rfl, hs⟩
  · go_enter Try.func5, Try.ntmps5
    go_wp2_with fail
    refine (awake_any _).mono ?_
    rintro r w1 ⟨rfl, hw1⟩
    have hx1 := boxed_blk hw1
    obtain ⟨c1, e1⟩ := hx1.two
    have hs1 := below_box hw1
    go_wp2_with fail
    refine (may_no B P _ h).mono ?_
    rintro r w2 ⟨rfl, hw2⟩
    go_wp2_with fail
    go_ret
    exact ⟨rfl, below_then hs1 hw2⟩

set_option maxRecDepth 100000 in
theorem lifted (os : Os) (started : os.Started) (H : Type) (enc : TypeId × Value → H) :
    ReturnsInHanded {} Try.checked os 5 .any (Rows.shareFreshSpec.pre6 enc Try.prog Try.f5 Rows.shareFreshRow.domain false) (Rows.shareFreshSpec.post enc Try.prog Try.f5 false true false false) := by
  refine law_lifted (C := Try.checked) (tb := 4) own started (by kernel_rfl) Try.func5
    (ChangeSpec.witness6 (enc := enc) (C := Try.checked) false ⟨#[], #[.agg #[.int .u64 0, .int .u64 0], .int .u16 0, .slice none 0 0], []⟩ 8 (by kernel_rfl) (by kernel_rfl) (by kernel_rfl) (by kernel_rfl)) laid (by kernel_rfl) (by kernel_rfl) Try.underlying4 rfl ?_
  intro W base args ds ps hval0 hA0 hlt
  have hval : ∀ (j : Nat) t v, Try.f5.params[j]? = some t → args[j]? = some v → Value.okWide Try.prog W .any base t v := hval0
  have hA : DataW.TrodAll enc Try.prog W 0 (fun _ => true) true Try.f5.params.toList args.toList ds ps := hA0
  clear hA0 hval0
  rw [Try.params5] at hA hval
  obtain ⟨v0, vs0, d0, ds0, p0, q0, hargs, rfl, rfl, h0, r0⟩ := trodAll_cons hA
  obtain ⟨v1, vs1, d1, ds1, p1, q1, rfl, rfl, rfl, h1, r1⟩ := trodAll_cons r0
  obtain ⟨v2, vs2, d2, ds2, p2, q2, rfl, rfl, rfl, h2, r2⟩ := trodAll_cons r1
  obtain ⟨rfl, rfl, rfl⟩ := trodAll_nil r2
  obtain rfl : args = #[v0, v1, v2] := by cases args; simp_all
  obtain ⟨cs0, rfl, sz0, ok0⟩ := open_flat (ts := [22, 22]) (Or.inl ⟨_, Try.underlying24⟩) (by kernel_rfl) (by kernel_rfl) (hval 0 24 v0 rfl rfl)
  obtain ⟨c0_0, c0_1, rfl⟩ := size2 sz0
  obtain ⟨a0_0, rfl, w0_0⟩ := cell_int Try.underlying22 (ok0 0 _ _ rfl rfl)
  obtain ⟨a0_1, rfl, w0_1⟩ := cell_int Try.underlying22 (ok0 1 _ _ rfl rfl)
  obtain ⟨a1, rfl, rfl, rfl, w1⟩ := open_int Try.underlying41 (hval 1 41 v1 rfl rfl) h1
  obtain ⟨A2, n2, cap2, f2, rfl, le2, mx2, rd2⟩ := open_slice_bools Try.underlying40 Try.underlying4 (by kernel_rfl) (hval 2 40 v2 rfl rfl) h2
  refine ⟨⟨rfl, rfl, rfl⟩, ?_⟩
  have b0 := bounds_u64 w0_0
  have b1 := bounds_u64 w0_1
  have b2 := bounds_u16 w1
  exact walk a0_0 a0_1 a1 A2 n2 cap2 f2 W b0 b1 b2 (by omega) rd2

theorem over : Rows.shareFreshRow.holds Try.pinned (OpenSpec.ofChange Rows.shareFreshSpec) :=
  OpenClaim.holds_of_wide 5 Try.f5 rfl rfl rfl rfl rfl rfl rfl ⟨rfl, rfl, rfl, rfl, rfl⟩ rfl rfl rfl rfl rfl (by kernel_rfl) Try.func5 (by kernel_rfl)
    (of_decide_eq_true (by kernel_rfl)) (by unfold Func.isWrapper; first | (rw [if_pos (by decide +kernel)]; kernel_rfl) | (rw [if_neg (by decide +kernel)]; exact ⟨rfl, rfl⟩))
    (fun os started H enc _ => lifted os started H enc)
theorem proved : Rows.ShareFreshSaid := over
#print axioms proved
end Go.Proofs.Ytlmfcdfodlcjaaa.shareFresh
