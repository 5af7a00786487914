/-
  For every share and every 8-bit number ShareWaits answers true, and changes nothing: who waits as long as is told has a unit then; between nobody has one. No condition.
-/
import Derived.Test.YtlmfcdfodlcjaaaRows
import Derived.Test.YtlmfcdfodlcjaaaFr
import Derived.Test.YtlmfcdfodlcjaaaShareL
import Derived.LoopTactic
namespace Go.Proofs.Ytlmfcdfodlcjaaa.shareWaits
open Go.ChangeShapes Go.WideShapes Go.ChangeAt Go.RowKit
set_option linter.unusedVariables false
theorem own : ownKnob Try.prog.godebug = none := by kernel_rfl
theorem laid : laidOutB Try.prog = true := by kernel_rfl
set_option maxRecDepth 100000
theorem walk (B P c : Int) (w : World) (bB : 0 ≤ B ∧ B ≤ 18446744073709551615) (bP : 0 ≤ P ∧ P ≤ 18446744073709551615) (bc : 0 ≤ c ∧ c ≤ 255) :
    Calls Try.prog 7 #[.agg #[.int .u64 B, .int .u64 P], .int .u8 c] w fun r w' => r = .returned (.bool true) ∧ Below w.heap.size w w' := by
  have g0 : 0 ≤ c % 100 := Int.emod_nonneg _ (by omega)
  have g1 : c % 100 < 100 := Int.emod_lt_of_pos _ (by omega)
  by_cases h : 1 ≤ B ∧ B ≤ P ∧ P ≤ 1099511627776
  · by_cases hq : 1048576 < P
    · have d1 : decide (1048576 < P) = true := decide_eq_true hq
      go_enter Try.func7, Try.ntmps7
      go_wp2_with fail
      refine (awake_any _).mono ?_
      rintro r w1 ⟨rfl, hw1⟩
      have hx1 := boxed_blk hw1
      obtain ⟨c1, e1⟩ := hx1.two
      have hs1 := below_box hw1
      go_wp2_with fail
      refine (may_yes B P _ h).mono ?_
      rintro r w2 ⟨rfl, hw2⟩
      have hx2 := hx1.stay hw2
      obtain ⟨c2, e2⟩ := hx2.two
      go_wp2_with fail
      go_ret
      exact ⟨rfl, below_then hs1 hw2⟩
    · have d1 : decide (1048576 < P) = false := decide_eq_false hq
      go_enter Try.func7, Try.ntmps7
      go_wp2_with fail
      refine (awake_any _).mono ?_
      rintro r w1 ⟨rfl, hw1⟩
      have hx1 := boxed_blk hw1
      obtain ⟨c1, e1⟩ := hx1.two
      have hs1 := below_box hw1
      go_wp2_with fail
      refine (may_yes B P _ h).mono ?_
      rintro r w2 ⟨rfl, hw2⟩
      have hx2 := hx1.stay hw2
      obtain ⟨c2, e2⟩ := hx2.two
      have hs2 := below_then hs1 hw2
      go_wp2_with fail
      refine (new_ok B P 3 _ h (by omega)).mono ?_
      rintro r w3 ⟨b, hB, rfl, hb3, hw3⟩
      have hs3 := below_then hs2 hw3
      have hbB : w.heap.size ≤ b := Nat.le_trans hs2.size hB
      clear c1 e1 c2 e2
      go_wp2_with fail
      go_loopw [7, 8] (fun nw i wr => ∃ k : Nat, ∃ now N W T : Int, (k : Int) ≤ c % 100 ∧ i = .int .i64 k ∧ nw = .int .u64 now ∧ 3 ≤ N ∧ N ≤ now ∧ now ≤ 3 + k * 1048576 ∧ 0 ≤ T ∧ T ≤ B ∧ Mk wr b B P 3 N W T ∧ Below w.heap.size w wr) (fun _ i _ => (c % 100 - intOf i).toNat)
      case atStart => exact ⟨0, 3, 3, 0, 0, by omega, rfl, rfl, by omega, by omega, by omega, by omega, by omega, hb3, hs3⟩
      case round =>
        obtain ⟨k, now, N, W, T, hk, rfl, rfl, n0, n1, n2, t0, t1, hb, hs⟩ := hrel
        by_cases hlt : (k : Int) < c % 100
        · have ho : MOK B P 3 N W T := ⟨by omega, by omega, by omega, by omega, by omega, by omega, by omega⟩
          obtain ⟨K, hK⟩ : ∃ K, (now - 3) / P = K := ⟨_, rfl⟩
          obtain ⟨t, ht⟩ : ∃ t, tkn W T K = t := ⟨_, rfl⟩
          have bt := tkn_bd (W := W) (K := K) t0 t1
          rw [ht] at bt
          have HK := Lib.hid hK
          have HT := Lib.hid ht
          have HT2 := Lib.hid (show tkn K t K = t from if_pos rfl)
          obtain ⟨m0, m1, m2, m3, m4⟩ := win_le (t := now) (p := 3) (d := P) (by omega) (by omega)
          rw [hK] at m0 m1 m2 m3 m4
          clear hK ht
          by_cases hl : t < B
          · have HV := Lib.hid (show mn 1 (B - t) = 1 by unfold mn; split <;> omega)
            go_wp2_with fail
            refine (wait_h b B P 3 N W T now K t _ hb ho n1 (by omega) HK.out HT.out hl).mono ?_
            rintro r w4 ⟨rfl, hb4, ho4⟩
            have hs4 := below_only hs ho4 hbB (Nat.le_refl _)
            go_wp2_with fail
            refine (take_g b B P 3 now K t now 1 K t 1 _ hb4 ⟨by omega, by omega, by omega, by omega, by omega, by omega, by omega⟩ (by omega) (by omega) (by omega) HK.out HT2.out HV.out).mono ?_
            rintro r w5 ⟨rfl, hb5, ho5⟩
            have hs5 := below_only hs4 ho5 hbB (Nat.le_refl _)
            go_wp2
            go_roundw
            case rel => exact ⟨k + 1, now, now, K, t + 1, by omega, by go_num, rfl, by omega, by omega, by omega, by omega, by omega, hb5, hs5⟩
            case measure => simp [intOf]; omega
          · have htB : t = B := by omega
            subst htB
            have HW := Lib.hid (show (3 + K * P + P - 1 - 3) / P = K by rw [show (3 : Int) + K * P + P - 1 = 3 + K * P + (P - 1) by omega]; exact win_in (by omega) (by omega))
            have HW2 := Lib.hid (show (3 + K * P + P - 3) / P = K + 1 by rw [show (3 : Int) + K * P + P = 3 + (K + 1) * P by rw [Int.add_mul]; omega]; exact win_at (by omega))
            have HV := Lib.hid (show mn 1 (t - t) = 0 by unfold mn; split <;> omega)
            have HV2 := Lib.hid (show mn 1 (t - 0) = 1 by unfold mn; split <;> omega)
            have HT3 := Lib.hid (show tkn K t (K + 1) = 0 from if_neg (by omega))
            generalize hat : 3 + K * P + P = a at *
            have ha1 : now < a := by omega
            have ha2 : a ≤ now + P := by omega
            have HA := Lib.hid hat
            clear hat
            go_wp2_with fail
            refine (wait_g b t P 3 N W T now K a _ hb ho n1 (by omega) HK.out HT.out HA.out (by omega)).mono ?_
            rintro r w4 ⟨rfl, hb4, ho4⟩
            have hs4 := below_only hs ho4 hbB (Nat.le_refl _)
            go_wp2_with fail
            refine (take_g b t P 3 now K t (a - 1) 1 K t 0 _ hb4 ⟨by omega, by omega, by omega, by omega, by omega, by omega, by omega⟩ (by omega) (by omega) (by omega) HW.out HT2.out HV.out).mono ?_
            rintro r w5 ⟨rfl, hb5, ho5⟩
            rw [Int.add_zero] at hb5
            have hs5 := below_only hs4 ho5 hbB (Nat.le_refl _)
            go_wp2_with fail
            refine (take_g b t P 3 (a - 1) K t a 1 (K + 1) 0 1 _ hb5 ⟨by omega, by omega, by omega, by omega, by omega, by omega, by omega⟩ (by omega) (by omega) (by omega) HW2.out HT3.out HV2.out).mono ?_
            rintro r w6 ⟨rfl, hb6, ho6⟩
            have hs6 := below_only hs5 ho6 hbB (Nat.le_refl _)
            go_wp2
            go_roundw
            case rel => exact ⟨k + 1, a, a, K + 1, 0 + 1, by omega, by go_num, rfl, by omega, by omega, by omega, by omega, by omega, hb6, hs6⟩
            case measure => simp [intOf]; omega
        · go_wp2
          go_ret
          exact ⟨rfl, hs⟩
  · go_enter Try.func7, Try.ntmps7
    go_wp2_with fail
    refine (awake_any _).mono ?_
    rintro r w1 ⟨rfl, hw1⟩
    have hx1 := boxed_blk hw1
    obtain ⟨c1, e1⟩ := hx1.two
    have hs1 := below_box hw1
    go_wp2_with fail
    refine (may_no B P _ h).mono ?_
    rintro r w2 ⟨rfl, hw2⟩
    go_wp2_with fail
    go_ret
    exact ⟨rfl, below_then hs1 hw2⟩

set_option maxRecDepth 100000 in
theorem lifted (os : Os) (started : os.Started) (H : Type) (enc : TypeId × Value → H) :
    ReturnsInHanded {} Try.checked os 7 .any (Rows.shareWaitsSpec.pre6 enc Try.prog Try.f7 Rows.shareWaitsRow.domain false) (Rows.shareWaitsSpec.post enc Try.prog Try.f7 false true false false) := by
  refine law_lifted (C := Try.checked) (tb := 4) own started (by kernel_rfl) Try.func7
    (ChangeSpec.witness6 (enc := enc) (C := Try.checked) false ⟨#[], #[.agg #[.int .u64 0, .int .u64 0], .int .u8 0], []⟩ 8 (by kernel_rfl) (by kernel_rfl) (by kernel_rfl) (by kernel_rfl)) laid (by kernel_rfl) (by kernel_rfl) Try.underlying4 rfl ?_
  intro W base args ds ps hval0 hA0 hlt
  have hval : ∀ (j : Nat) t v, Try.f7.params[j]? = some t → args[j]? = some v → Value.okWide Try.prog W .any base t v := hval0
  have hA : DataW.TrodAll enc Try.prog W 0 (fun _ => true) true Try.f7.params.toList args.toList ds ps := hA0
  clear hA0 hval0
  rw [Try.params7] at hA hval
  obtain ⟨v0, vs0, d0, ds0, p0, q0, hargs, rfl, rfl, h0, r0⟩ := trodAll_cons hA
  obtain ⟨v1, vs1, d1, ds1, p1, q1, rfl, rfl, rfl, h1, r1⟩ := trodAll_cons r0
  obtain ⟨rfl, rfl, rfl⟩ := trodAll_nil r1
  obtain rfl : args = #[v0, v1] := by cases args; simp_all
  obtain ⟨cs0, rfl, sz0, ok0⟩ := open_flat (ts := [22, 22]) (Or.inl ⟨_, Try.underlying24⟩) (by kernel_rfl) (by kernel_rfl) (hval 0 24 v0 rfl rfl)
  obtain ⟨c0_0, c0_1, rfl⟩ := size2 sz0
  obtain ⟨a0_0, rfl, w0_0⟩ := cell_int Try.underlying22 (ok0 0 _ _ rfl rfl)
  obtain ⟨a0_1, rfl, w0_1⟩ := cell_int Try.underlying22 (ok0 1 _ _ rfl rfl)
  obtain ⟨a1, rfl, rfl, rfl, w1⟩ := open_int Try.underlying5 (hval 1 5 v1 rfl rfl) h1
  refine ⟨⟨rfl, rfl, rfl⟩, ?_⟩
  have b0 := bounds_u64 w0_0
  have b1 := bounds_u64 w0_1
  have b2 := bounds_u8 w1
  exact walk a0_0 a0_1 a1 W b0 b1 b2

theorem over : Rows.shareWaitsRow.holds Try.pinned (OpenSpec.ofChange Rows.shareWaitsSpec) :=
  OpenClaim.holds_of_wide 7 Try.f7 rfl rfl rfl rfl rfl rfl rfl ⟨rfl, rfl, rfl, rfl, rfl⟩ rfl rfl rfl rfl rfl (by kernel_rfl) Try.func7 (by kernel_rfl)
    (of_decide_eq_true (by kernel_rfl)) (by unfold Func.isWrapper; first | (rw [if_pos (by decide +kernel)]; kernel_rfl) | (rw [if_neg (by decide +kernel)]; exact ⟨rfl, rfl⟩))
    (fun os started H enc _ => lifted os started H enc)
theorem proved : Rows.ShareWaitsSaid := over
#print axioms proved
end Go.Proofs.Ytlmfcdfodlcjaaa.shareWaits
