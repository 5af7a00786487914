/-
  For every three 8-bit numbers BucketWaits answers true, and changes nothing: who waits as long as is told has a token then, and not ahead of that. No condition.
-/
import Derived.Test.YtllkhelklgdjeaaRows
import Derived.Test.YtllkhelklgdjeaaFr
import Derived.Test.YtllkhelklgdjeaaBuckL
import Derived.LoopTactic
namespace Go.Proofs.Ytllkhelklgdjeaa.bucketWaits
open Go.ChangeShapes Go.WideShapes Go.ChangeAt Go.RowKit
set_option linter.unusedVariables false
theorem own : ownKnob Try.prog.godebug = none := by kernel_rfl
theorem laid : laidOutB Try.prog = true := by kernel_rfl
theorem tk_same {D E N T : Int} (hT : T ≤ D) : tk D E N T N = T := by
  unfold tk; simp only [Int.sub_self, Int.add_zero]; split <;> omega
theorem div_before {E N : Int} (hE : 1 ≤ E) : (N / E * E + E - 1) / E = N / E := by
  rw [show N / E * E + E - 1 = (E - 1) + N / E * E by omega, Int.add_mul_ediv_right _ _ (by omega), Int.ediv_eq_zero_of_lt (by omega) (by omega)]; omega
theorem div_at {E N : Int} (hE : 1 ≤ E) : (N / E * E + E) / E = N / E + 1 := by
  rw [show N / E * E + E = (N / E + 1) * E by rw [Int.add_mul]; omega, Int.mul_ediv_cancel _ (by omega)]
theorem tk_before {D E N : Int} (hD : 1 ≤ D) (hE : 1 ≤ E) : tk D E N 0 (N / E * E + E - 1) = 0 := by
  unfold tk; rw [div_before hE]; simp only [Int.sub_self, Int.add_zero]; rw [if_pos (by omega)]
theorem tk_then {D E N : Int} (hD : 1 ≤ D) (hE : 1 ≤ E) : tk D E (N / E * E + E - 1) 0 (N / E * E + E) = 0 + 1 := by
  unfold tk; rw [div_before hE, div_at hE, show (0 : Int) + (N / E + 1 - N / E) = 1 by omega]; split <;> omega
theorem at_mod {E N : Int} (hE : 1 ≤ E) : (N / E * E + E) % E = 0 := by
  rw [show N / E * E + E = (N / E + 1) * E by rw [Int.add_mul]; omega, Int.mul_emod_left]
set_option maxRecDepth 100000
theorem walk (a b c : Int) (w : World) (ba : 0 ≤ a ∧ a ≤ 255) (bb : 0 ≤ b ∧ b ≤ 255) (bc : 0 ≤ c ∧ c ≤ 255) :
    Calls Try.prog 4 #[.int .u8 a, .int .u8 b, .int .u8 c] w fun r w' => r = .returned (.bool true) ∧ Below w.heap.size w w' := by
  have d0 : 0 ≤ a % 10 := Int.emod_nonneg _ (by omega)
  have d1 : a % 10 < 10 := Int.emod_lt_of_pos _ (by omega)
  have e0 : 0 ≤ b % 30 := Int.emod_nonneg _ (by omega)
  have e1 : b % 30 < 30 := Int.emod_lt_of_pos _ (by omega)
  have t0 : 0 ≤ c % 60 := Int.emod_nonneg _ (by omega)
  have t1 : c % 60 < 60 := Int.emod_lt_of_pos _ (by omega)
  go_enter Try.func4, Try.ntmps4
  go_wp2_with (first | (go_at_call 8; refine (awake_any _).mono ?_; rintro r w1 ⟨rfl, hw⟩) | (go_at_call 9; refine (new_ok _ _ _ (by omega)).mono ?_; rintro r w2 ⟨rfl, hb, hz, hn⟩))
  have hB : w.heap.size ≤ w1.heap.size := hw.size
  generalize a % 10 = x at *
  generalize b % 30 = y at *
  go_loopw [11, 12] (fun nw i wr => ∃ k : Nat, ∃ now N T : Int, (k : Int) ≤ c % 60 ∧ i = .int .i64 k ∧ nw = .int .u64 now ∧ 0 ≤ N ∧ N ≤ now ∧ 0 ≤ T ∧ T ≤ 1 + x ∧ now ≤ 3 + 31 * k ∧ Bk wr w1.heap.size (1 + x) (1 + y) N T ∧ Below w.heap.size w wr) (fun _ i _ => (c % 60 - intOf i).toNat)
  case atStart => exact ⟨0, 3, 0, 1 + x, by omega, rfl, rfl, by omega, by omega, by omega, by omega, by omega, hb, hw.trans (hn.mono hB)⟩
  case round =>
    obtain ⟨k, now, N, T, hk, rfl, rfl, n0, n1, p0, p1, n2, hb, hwr⟩ := hrel
    by_cases hlt : (k : Int) < c % 60
    · have ho : BkOK (1 + x) (1 + y) N T := ⟨by omega, by omega, by omega, by omega, by omega, by omega, by omega⟩
      have bd := tk_bd n0 n1 (show 1 ≤ 1 + y by omega) p0 p1
      by_cases ht : 1 ≤ tk (1 + x) (1 + y) N T now
      · obtain ⟨v, hv⟩ : ∃ v, tk (1 + x) (1 + y) N T now = v + 1 := ⟨tk (1 + x) (1 + y) N T now - 1, by omega⟩
        have hs := Lib.hid (show tk (1 + x) (1 + y) now (v + 1) now = v + 1 from tk_same (by omega))
        go_wp2_with fail
        refine (wait_now _ (1 + x) (1 + y) N T now _ hb ho n1 (by omega) ht).mono ?_
        rintro r w3 ⟨rfl, hb3, ho3⟩
        rw [hv] at hb3
        have v0 : 0 ≤ v := by omega
        have v1 : v + 1 ≤ 1 + x := by omega
        clear hv ht bd
        go_wp2_with fail
        refine (take_y _ (1 + x) (1 + y) now (v + 1) now v _ hb3 ⟨by omega, by omega, by omega, by omega, by omega, by omega, by omega⟩ (by omega) (by omega) hs.out v0).mono ?_
        rintro r w4 ⟨rfl, hb4, ho4⟩
        go_wp2
        go_roundw
        case rel => exact ⟨k + 1, now, now, v, by omega, by go_num, rfl, by omega, by omega, by omega, by omega, by omega, hb4, below_only (below_only hwr ho3 hB (Nat.le_refl _)) ho4 hB (Nat.le_refl _)⟩
        case measure => simp [intOf]; omega
      · have hz2 : tk (1 + x) (1 + y) N T now = 0 := by omega
        obtain ⟨q, hq⟩ : ∃ q, now / (1 + y) * (1 + y) = q := ⟨_, rfl⟩
        have q0 : 0 ≤ q := by rw [← hq]; exact Int.mul_nonneg (Int.ediv_nonneg (by omega) (by omega)) (by omega)
        have q1 : q ≤ now := by rw [← hq]; exact Int.ediv_mul_le _ (by omega)
        have q2 : now < q + (1 + y) := by
          rw [← hq]; have e := Int.mul_ediv_add_emod now (1 + y); have := Int.emod_lt_of_pos now (show 0 < 1 + y by omega); rw [Int.mul_comm] at e; omega
        have h1 := tk_before (D := 1 + x) (E := 1 + y) (N := now) (by omega) (by omega)
        have h2 := tk_then (D := 1 + x) (E := 1 + y) (N := now) (by omega) (by omega)
        have h3 := at_mod (E := 1 + y) (N := now) (by omega)
        have wn := fun w hb => wait_next w1.heap.size (1 + x) (1 + y) N T now w hb ho n1 (by omega) hz2 (by rw [hq]; omega)
        rw [hq] at h1 h2 h3 wn
        have H1 := Lib.hid h1
        have H2 := Lib.hid h2
        have WN := Lib.hid wn
        clear h1 h2 hq wn bd hz2 ht
        go_wp2_with fail
        refine (WN.out _ hb).mono ?_
        rintro r w3 ⟨rfl, hb3, ho3⟩
        go_wp2_with fail
        refine (take_no _ (1 + x) (1 + y) now 0 (q + (1 + y) - 1) _ hb3 ⟨by omega, by omega, by omega, by omega, by omega, by omega, by omega⟩ (by omega) (by omega) H1.out).mono ?_
        rintro r w4 ⟨rfl, hb4, ho4⟩
        go_wp2_with fail
        refine (take_y _ (1 + x) (1 + y) (q + (1 + y) - 1) 0 (q + (1 + y)) 0 _ hb4 ⟨by omega, by omega, by omega, by omega, by omega, by omega, by omega⟩ (by omega) (by omega) H2.out (by omega)).mono ?_
        rintro r w5 ⟨rfl, hb5, ho5⟩
        go_wp2
        go_roundw
        case rel => exact ⟨k + 1, q + (1 + y), q + (1 + y), 0, by omega, by go_num, rfl, by omega, by omega, by omega, by omega, by omega, hb5, below_only (below_only (below_only hwr ho3 hB (Nat.le_refl _)) ho4 hB (Nat.le_refl _)) ho5 hB (Nat.le_refl _)⟩
        case measure => simp [intOf]; omega
    · go_wp2
      go_ret
      exact ⟨rfl, hwr⟩

set_option maxRecDepth 100000 in
theorem lifted (os : Os) (started : os.Started) (H : Type) (enc : TypeId × Value → H) :
    ReturnsInHanded {} Try.checked os 4 .any (Rows.bucketWaitsSpec.pre6 enc Try.prog Try.f4 Rows.bucketWaitsRow.domain false) (Rows.bucketWaitsSpec.post enc Try.prog Try.f4 false true false false) := by
  refine law_lifted (C := Try.checked) (tb := 4) own started (by kernel_rfl) Try.func4
    (ChangeSpec.witness6 (enc := enc) (C := Try.checked) false ⟨#[], #[.int .u8 0, .int .u8 0, .int .u8 0], []⟩ 8 (by kernel_rfl) (by kernel_rfl) (by kernel_rfl) (by kernel_rfl)) laid (by kernel_rfl) (by kernel_rfl) Try.underlying4 rfl ?_
  intro W base args ds ps hval0 hA0 hlt
  have hval : ∀ (j : Nat) t v, Try.f4.params[j]? = some t → args[j]? = some v → Value.okWide Try.prog W .any base t v := hval0
  have hA : DataW.TrodAll enc Try.prog W 0 (fun _ => true) true Try.f4.params.toList args.toList ds ps := hA0
  clear hA0 hval0
  rw [Try.params4] at hA hval
  obtain ⟨v0, vs0, d0, ds0, p0, q0, hargs, rfl, rfl, h0, r0⟩ := trodAll_cons hA
  obtain ⟨v1, vs1, d1, ds1, p1, q1, rfl, rfl, rfl, h1, r1⟩ := trodAll_cons r0
  obtain ⟨v2, vs2, d2, ds2, p2, q2, rfl, rfl, rfl, h2, r2⟩ := trodAll_cons r1
  obtain ⟨rfl, rfl, rfl⟩ := trodAll_nil r2
  obtain rfl : args = #[v0, v1, v2] := by cases args; simp_all
  obtain ⟨a0, rfl, rfl, rfl, w0⟩ := open_int Try.underlying5 (hval 0 5 v0 rfl rfl) h0
  obtain ⟨a1, rfl, rfl, rfl, w1⟩ := open_int Try.underlying5 (hval 1 5 v1 rfl rfl) h1
  obtain ⟨a2, rfl, rfl, rfl, w2⟩ := open_int Try.underlying5 (hval 2 5 v2 rfl rfl) h2
  refine ⟨⟨rfl, rfl, rfl⟩, ?_⟩
  have b0 := bounds_u8 w0
  have b1 := bounds_u8 w1
  have b2 := bounds_u8 w2
  exact walk a0 a1 a2 W b0 b1 b2

theorem over : Rows.bucketWaitsRow.holds Try.pinned (OpenSpec.ofChange Rows.bucketWaitsSpec) :=
  OpenClaim.holds_of_wide 4 Try.f4 rfl rfl rfl rfl rfl rfl rfl ⟨rfl, rfl, rfl, rfl, rfl⟩ rfl rfl rfl rfl rfl (by kernel_rfl) Try.func4 (by kernel_rfl)
    (of_decide_eq_true (by kernel_rfl)) (by unfold Func.isWrapper; first | (rw [if_pos (by decide +kernel)]; kernel_rfl) | (rw [if_neg (by decide +kernel)]; exact ⟨rfl, rfl⟩))
    (fun os started H enc _ => lifted os started H enc)
theorem proved : Rows.BucketWaitsSaid := over
#print axioms proved
end Go.Proofs.Ytllkhelklgdjeaa.bucketWaits
