/-
  For every three 16-bit numbers BucketFills answers true, and changes nothing: left alone a bucket has one token more each time, up to its depth, and no more. No condition.
-/
import Derived.Test.YtllkhelklgdjeaaRows
import Derived.Test.YtllkhelklgdjeaaFr
import Derived.Test.YtllkhelklgdjeaaBuckL
import Derived.LoopTactic
namespace Go.Proofs.Ytllkhelklgdjeaa.bucketFills
open Go.ChangeShapes Go.WideShapes Go.ChangeAt Go.RowKit
set_option linter.unusedVariables false
theorem own : ownKnob Try.prog.godebug = none := by kernel_rfl
theorem laid : laidOutB Try.prog = true := by kernel_rfl
theorem tk_0 {D E : Int} {T : Int} (hT : T ≤ D) : tk D E 0 T 0 = T := by
  unfold tk; simp only [Int.sub_self, Int.add_zero]; split <;> omega
theorem tk_step {D E i T : Int} (hE : 1 ≤ E) (h0 : 0 ≤ i) : tk D E (i * E) T ((i + 1) * E) = if T + 1 < D then T + 1 else D := by
  unfold tk
  rw [Int.mul_ediv_cancel _ (by omega), Int.mul_ediv_cancel _ (by omega), show T + (i + 1 - i) = T + 1 by omega]
theorem tk_stay {D E i T : Int} (hE : 1 ≤ E) (h0 : 0 ≤ i) (hT : T ≤ D) : tk D E (i * E) T (i * E + E - 1) = T := by
  unfold tk
  have e : (i * E + E - 1) / E = i := by
    rw [show i * E + E - 1 = (E - 1) + i * E by omega, Int.add_mul_ediv_right _ _ (by omega), Int.ediv_eq_zero_of_lt (by omega) (by omega)]; omega
  rw [e, Int.mul_ediv_cancel _ (by omega)]
  simp only [Int.sub_self, Int.add_zero]; split <;> omega
theorem tk_next {D E i T : Int} (hE : 1 ≤ E) (h0 : 0 ≤ i) : tk D E (i * E + E - 1) T ((i + 1) * E) = if T + 1 < D then T + 1 else D := by
  unfold tk
  have e : (i * E + E - 1) / E = i := by
    rw [show i * E + E - 1 = (E - 1) + i * E by omega, Int.add_mul_ediv_right _ _ (by omega), Int.ediv_eq_zero_of_lt (by omega) (by omega)]; omega
  rw [e, Int.mul_ediv_cancel _ (by omega), show T + (i + 1 - i) = T + 1 by omega]
def V (D t k : Int) : Int := if D - t + k < D then D - t + k else D
/-- What is there at the head of round k. -/
def At (D E t : Int) (k : Nat) (N T : Int) : Prop := (k = 0 ∧ N = 0 ∧ T = D - t) ∨ (∃ i : Int, 0 ≤ i ∧ (k : Int) = i + 1 ∧ N = i * E + E - 1 ∧ T = V D t i)
theorem At.bd {D E t N T : Int} {k : Nat} (h : At D E t k N T) (hE : 1 ≤ E) (ht : 0 ≤ t) (htD : t ≤ D) : 0 ≤ N ∧ N ≤ k * E ∧ 0 ≤ T ∧ T ≤ D := by
  rcases h with ⟨rfl, rfl, rfl⟩ | ⟨i, hi, hk, rfl, rfl⟩
  · exact ⟨by omega, by simp, by omega, by omega⟩
  · have := Int.mul_nonneg hi (show 0 ≤ E by omega)
    refine ⟨by omega, by rw [hk, Int.add_mul]; omega, ?_, ?_⟩ <;> (unfold V; split <;> omega)
theorem At.val {D E t N T : Int} {k : Nat} (h : At D E t k N T) (hE : 1 ≤ E) (ht : 0 ≤ t) (htD : t ≤ D) : tk D E N T (k * E) = V D t k := by
  rcases h with ⟨rfl, rfl, rfl⟩ | ⟨i, hi, hk, rfl, rfl⟩
  · rw [show ((0 : Nat) : Int) * E = 0 by simp, tk_0 (by omega)]; unfold V; simp; intro h; omega
  · rw [hk, tk_next hE hi]; unfold V
    by_cases g : D - t + i < D
    · rw [if_pos g]
      by_cases g2 : D - t + (i + 1) < D
      · rw [if_pos g2, if_pos (by omega)]; omega
      · rw [if_neg g2, if_neg (by omega)]
    · rw [if_neg g, if_neg (by omega), if_neg (by omega)]
theorem V_le {D t k : Int} (ht : 0 ≤ t) (htD : t ≤ D) (hk : 0 ≤ k) : 0 ≤ V D t k ∧ V D t k ≤ D := by unfold V; split <;> omega
set_option maxRecDepth 100000
theorem walk (a b c : Int) (w : World) (ba : 0 ≤ a ∧ a ≤ 65535) (bb : 0 ≤ b ∧ b ≤ 65535) (bc : 0 ≤ c ∧ c ≤ 65535) :
    Calls Try.prog 5 #[.int .u16 a, .int .u16 b, .int .u16 c] w fun r w' => r = .returned (.bool true) ∧ Below w.heap.size w w' := by
  have d0 : 0 ≤ a % 1000 := Int.emod_nonneg _ (by omega)
  have d1 : a % 1000 < 1000 := Int.emod_lt_of_pos _ (by omega)
  generalize hx : a % 1000 = x at *
  have t0 : 0 ≤ c % (1 + x + 1) := Int.emod_nonneg _ (by omega)
  have t1 : c % (1 + x + 1) < 1 + x + 1 := Int.emod_lt_of_pos _ (by omega)
  generalize ht : c % (1 + x + 1) = t at *
  go_enter Try.func5, Try.ntmps5
  go_wp2_with (first | (go_at_call 8; refine (awake_any _).mono ?_; rintro r w1 ⟨rfl, hw⟩) | (go_at_call 9; refine (new_ok _ _ _ (by omega)).mono ?_; rintro r w2 ⟨rfl, hb, hz, hn⟩))
  have hB : w.heap.size ≤ w1.heap.size := hw.size
  rw [ht]
  clear ht hx
  go_loopw [12] (fun i wr => ∃ k : Nat, (k : Int) ≤ t ∧ i = .int .i64 k ∧ Bk wr w1.heap.size (1 + x) (1 + b) 0 (1 + x - k) ∧ Below w.heap.size w wr) (fun i _ => (t - intOf i).toNat)
  case atStart => exact ⟨0, by omega, rfl, by simpa using hb, hw.trans (hn.mono hB)⟩
  case round =>
    obtain ⟨k, hk, rfl, hb, hwr⟩ := hrel
    by_cases hlt : (k : Int) < t
    · have hv := Lib.hid (show tk (1 + x) (1 + b) 0 (1 + x - k) 0 = (1 + x - ((k + 1 : Nat) : Int)) + 1 by rw [tk_0 (by omega)]; omega)
      go_wp2_with (go_at_call 10; refine (take_y _ (1 + x) (1 + b) 0 _ 0 _ _ hb ⟨by omega, by omega, by omega, by omega, by omega, by omega, by omega⟩ (by omega) (by omega) hv.out (by omega)).mono ?_; rintro r w3 ⟨rfl, hb3, ho3⟩)
      go_roundw
      case rel => first | exact ⟨k + 1, by omega, by go_num, hb3, below_only hwr ho3 hB (Nat.le_refl _)⟩ | ((repeat apply Exists.intro); exact ⟨⟨k + 1, by omega, by go_num, hb3, below_only hwr ho3 hB (Nat.le_refl _)⟩, rfl⟩)
      case measure => simp [intOf]; omega
    · have hkt : t = (k : Int) := by omega
      have HK := Lib.hid (show (k : Int) ≤ 1 + x by omega)
      clear hlt hk t0 t1
      subst hkt
      go_wp2
      go_loopw [15] (fun i wr => ∃ j : Nat, ∃ N T : Int, j ≤ 100 ∧ i = .int .i64 j ∧ Bk wr w1.heap.size (1 + x) (1 + b) N T ∧ At (1 + x) (1 + b) k j N T ∧ Below w.heap.size w wr) (fun i _ => 100 - (intOf i).toNat)
      case atStart => exact ⟨0, _, _, by omega, rfl, hb, Or.inl ⟨rfl, rfl, rfl⟩, hwr⟩
      case round =>
        obtain ⟨j, N, T, hj, rfl, hb, hat, hwr⟩ := hrel
        by_cases hlt : j < 100
        · have hk2 := HK.out
          obtain ⟨n0, n1, n2, n3⟩ := hat.bd (by omega) (by omega) hk2
          have hv := Lib.hid (hat.val (by omega) (by omega) hk2)
          obtain ⟨v0, v1⟩ := V_le (D := 1 + x) (t := k) (k := j) (by omega) hk2 (by omega)
          have hs := Lib.hid (tk_stay (D := 1 + x) (E := 1 + b) (i := j) (T := V (1 + x) k j) (by omega) (by omega) v1)
          have p0 : 0 ≤ (j : Int) * (1 + b) := Int.mul_nonneg (by omega) (by omega)
          have p1 : (j : Int) * (1 + b) ≤ 100 * 65536 := Int.mul_le_mul (by omega) (by omega) (by omega) (by omega)
          obtain ⟨v, hvv⟩ : ∃ v, V (1 + x) k j = v := ⟨_, rfl⟩
          rw [hvv] at hv hs v0 v1
          have HV := Lib.hid hvv.symm
          by_cases hc : 1 + x - (k : Int) + j < 1 + x
          · have e := hvv
            unfold V at e
            rw [if_pos hc] at e
            clear hvv
            subst e
            go_wp2_with fail
            refine (has_g _ (1 + x) (1 + b) N T _ _ _ hb ⟨by omega, by omega, by omega, by omega, by omega, by omega, by omega⟩ (by omega) (by omega) hv.out).mono ?_
            rintro r w3 ⟨rfl, hb3, ho3⟩
            go_wp2_with fail
            refine (has_g _ (1 + x) (1 + b) _ _ _ _ _ hb3 ⟨by omega, by omega, by omega, by omega, by omega, by omega, by omega⟩ (by omega) (by omega) hs.out).mono ?_
            rintro r w4 ⟨rfl, hb4, ho4⟩
            go_wp2
            go_ways
            all_goals go_roundw
            case rel => exact ⟨j + 1, _, _, by omega, by go_num, hb4, Or.inr ⟨j, by omega, by omega, rfl, HV.out⟩, below_only (below_only hwr ho3 hB (Nat.le_refl _)) ho4 hB (Nat.le_refl _)⟩
            case measure => simp [intOf]; omega
          · have e := hvv
            unfold V at e
            rw [if_neg hc] at e
            clear hvv
            subst e
            go_wp2_with fail
            refine (has_g _ (1 + x) (1 + b) N T _ _ _ hb ⟨by omega, by omega, by omega, by omega, by omega, by omega, by omega⟩ (by omega) (by omega) hv.out).mono ?_
            rintro r w3 ⟨rfl, hb3, ho3⟩
            go_wp2_with fail
            refine (has_g _ (1 + x) (1 + b) _ _ _ _ _ hb3 ⟨by omega, by omega, by omega, by omega, by omega, by omega, by omega⟩ (by omega) (by omega) hs.out).mono ?_
            rintro r w4 ⟨rfl, hb4, ho4⟩
            go_wp2
            go_ways
            all_goals go_roundw
            case rel => exact ⟨j + 1, _, _, by omega, by go_num, hb4, Or.inr ⟨j, by omega, by omega, rfl, HV.out⟩, below_only (below_only hwr ho3 hB (Nat.le_refl _)) ho4 hB (Nat.le_refl _)⟩
            case measure => simp [intOf]; omega
        · go_wp2
          go_ret
          exact ⟨rfl, hwr⟩

set_option maxRecDepth 100000 in
theorem lifted (os : Os) (started : os.Started) (H : Type) (enc : TypeId × Value → H) :
    ReturnsInHanded {} Try.checked os 5 .any (Rows.bucketFillsSpec.pre6 enc Try.prog Try.f5 Rows.bucketFillsRow.domain false) (Rows.bucketFillsSpec.post enc Try.prog Try.f5 false true false false) := by
  refine law_lifted (C := Try.checked) (tb := 4) own started (by kernel_rfl) Try.func5
    (ChangeSpec.witness6 (enc := enc) (C := Try.checked) false ⟨#[], #[.int .u16 0, .int .u16 0, .int .u16 0], []⟩ 8 (by kernel_rfl) (by kernel_rfl) (by kernel_rfl) (by kernel_rfl)) laid (by kernel_rfl) (by kernel_rfl) Try.underlying4 rfl ?_
  intro W base args ds ps hval0 hA0 hlt
  have hval : ∀ (j : Nat) t v, Try.f5.params[j]? = some t → args[j]? = some v → Value.okWide Try.prog W .any base t v := hval0
  have hA : DataW.TrodAll enc Try.prog W 0 (fun _ => true) true Try.f5.params.toList args.toList ds ps := hA0
  clear hA0 hval0
  rw [Try.params5] at hA hval
  obtain ⟨v0, vs0, d0, ds0, p0, q0, hargs, rfl, rfl, h0, r0⟩ := trodAll_cons hA
  obtain ⟨v1, vs1, d1, ds1, p1, q1, rfl, rfl, rfl, h1, r1⟩ := trodAll_cons r0
  obtain ⟨v2, vs2, d2, ds2, p2, q2, rfl, rfl, rfl, h2, r2⟩ := trodAll_cons r1
  obtain ⟨rfl, rfl, rfl⟩ := trodAll_nil r2
  obtain rfl : args = #[v0, v1, v2] := by cases args; simp_all
  obtain ⟨a0, rfl, rfl, rfl, w0⟩ := open_int Try.underlying39 (hval 0 39 v0 rfl rfl) h0
  obtain ⟨a1, rfl, rfl, rfl, w1⟩ := open_int Try.underlying39 (hval 1 39 v1 rfl rfl) h1
  obtain ⟨a2, rfl, rfl, rfl, w2⟩ := open_int Try.underlying39 (hval 2 39 v2 rfl rfl) h2
  refine ⟨⟨rfl, rfl, rfl⟩, ?_⟩
  have b0 := bounds_u16 w0
  have b1 := bounds_u16 w1
  have b2 := bounds_u16 w2
  exact walk a0 a1 a2 W b0 b1 b2

theorem over : Rows.bucketFillsRow.holds Try.pinned (OpenSpec.ofChange Rows.bucketFillsSpec) :=
  OpenClaim.holds_of_wide 5 Try.f5 rfl rfl rfl rfl rfl rfl rfl ⟨rfl, rfl, rfl, rfl, rfl⟩ rfl rfl rfl rfl rfl (by kernel_rfl) Try.func5 (by kernel_rfl)
    (of_decide_eq_true (by kernel_rfl)) (by unfold Func.isWrapper; first | (rw [if_pos (by decide +kernel)]; kernel_rfl) | (rw [if_neg (by decide +kernel)]; exact ⟨rfl, rfl⟩))
    (fun os started H enc _ => lifted os started H enc)
theorem proved : Rows.BucketFillsSaid := over
#print axioms proved
end Go.Proofs.Ytllkhelklgdjeaa.bucketFills
