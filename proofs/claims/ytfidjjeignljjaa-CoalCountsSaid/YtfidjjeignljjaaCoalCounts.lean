/-
  For every three 8-bit numbers CoalCounts answers true, and changes nothing: raised at one time as often as its count says a gatherer fires, each time, all that it has. No condition.
-/
import Derived.Test.YtfidjjeignljjaaRows
import Derived.Test.YtfidjjeignljjaaFr
import Derived.Test.YtfidjjeignljjaaCoalL
import Derived.LoopTactic
namespace Go.Proofs.Ytfidjjeignljjaa.coalCounts
open Go.ChangeShapes Go.WideShapes Go.ChangeAt Go.RowKit
set_option linter.unusedVariables false
theorem own : ownKnob Try.prog.godebug = none := by kernel_rfl
theorem laid : laidOutB Try.prog = true := by kernel_rfl
/-- i % c, and one more. -/
theorem mod_next {i c : Int} (h0 : 0 ≤ i) (hc : 1 ≤ c) : (i + 1) % c = if i % c + 1 < c then i % c + 1 else 0 := by
  have e := Int.mul_ediv_add_emod i c
  have r0 := Int.emod_nonneg i (show c ≠ 0 by omega)
  have r1 := Int.emod_lt_of_pos i (show 0 < c by omega)
  split
  · rename_i h
    rw [show i + 1 = (i % c + 1) + c * (i / c) by omega, Int.add_mul_emod_self_left, Int.emod_eq_of_lt (by omega) h]
  · rename_i h
    rw [show i + 1 = c * (i / c + 1) by rw [Int.mul_add]; omega, Int.mul_emod_right]
set_option maxRecDepth 100000
theorem walk (a b c : Int) (w : World) (ba : 0 ≤ a ∧ a ≤ 255) (bb : 0 ≤ b ∧ b ≤ 255) (bc : 0 ≤ c ∧ c ≤ 255) :
    Calls Try.prog 5 #[.int .u8 a, .int .u8 b, .int .u8 c] w fun r w' => r = .returned (.bool true) ∧ Below w.heap.size w w' := by
  have d0 : 0 ≤ a % 20 := Int.emod_nonneg _ (by omega)
  have d1 : a % 20 < 20 := Int.emod_lt_of_pos _ (by omega)
  have t0 : 0 ≤ c % 40 := Int.emod_nonneg _ (by omega)
  have t1 : c % 40 < 40 := Int.emod_lt_of_pos _ (by omega)
  go_enter Try.func5, Try.ntmps5
  go_wp2_with fail
  refine (awake_any _).mono ?_
  rintro r w1 ⟨rfl, hw⟩
  go_wp2_with fail
  refine (new_ok (1 + a % 20) (b + 1) _ (by omega)).mono ?_
  rintro r w2 ⟨rfl, hb, hz, hn⟩
  have hB : w.heap.size ≤ w1.heap.size := hw.size
  have hw2 := hw.trans (hn.mono hB)
  generalize a % 20 = x at *
  go_wp2_with fail
  go_loopw [10] (fun i wr => ∃ k : Nat, ∃ N F : Int, (k : Int) ≤ c % 40 ∧ i = .int .i64 (k + 1) ∧ 0 ≤ N ∧ N ≤ 7 ∧ 0 ≤ F ∧ F ≤ 7 ∧ ((k : Int) % (1 + x) = 0 ∨ F = 7) ∧ Gk wr w1.heap.size (1 + x) (b + 1) N ((k : Int) % (1 + x)) F ∧ Below w.heap.size w wr) (fun i _ => (c % 40 + 1 - intOf i).toNat)
  case atStart => exact ⟨0, 0, 0, by omega, rfl, by omega, by omega, by omega, by omega, Or.inl (by simp), by simpa using hb, hw2⟩
  case round =>
    obtain ⟨k, N, F, hk, rfl, n0, n1, f0, f1, hf, hb, hwr⟩ := hrel
    have r0 := Int.emod_nonneg (k : Int) (show 1 + x ≠ 0 by omega)
    have r1 := Int.emod_lt_of_pos (k : Int) (show 0 < 1 + x by omega)
    by_cases hlt : (k : Int) < c % 40
    · have hmn := mod_next (i := k) (c := 1 + x) (by omega) (by omega)
      generalize hm : (k : Int) % (1 + x) = m at *
      have HM := Lib.hid hm
      clear hm
      have ho : KOK (1 + x) (b + 1) N m F := ⟨by omega, by omega, by omega, by omega, by omega, by omega, by omega, by omega, by omega⟩
      by_cases hc : m + 1 < 1 + x
      · rw [if_pos hc] at hmn
        have z0 : ((k : Int) + 1) % (1 + x) = m + 1 := hmn
        have z1 : (m + 1 == 0) = false := beq_eq_false_iff_ne.2 (by omega)
        have eR : rR (1 + x) (b + 1) m = 0 := if_neg (by omega)
        have eK : rK (1 + x) (b + 1) m = m + 1 := if_neg (by omega)
        have eF : rF m F 7 = 7 := by unfold rF; split <;> omega
        have ER := Lib.hid eR
        have EK := Lib.hid eK
        have EF := Lib.hid eF
        have HF := Lib.hid (show m = 0 ∨ 7 < F + (b + 1) by omega)
        have Z := Lib.hid z0
        clear eR eK eF hmn hf
        go_wp2_with fail
        refine (raise_not _ (1 + x) (b + 1) N m F 7 _ hb ho (by omega) (by omega) (by omega) HF.out).mono ?_
        rintro r w3 ⟨rfl, hb3, ho3⟩
        rw [EK.out, EF.out] at hb3
        rw [ER.out]
        go_wp2_with fail
        go_quiet ((go_at_call 17; exact q_left (has_any _ _ _ _ _ _ _ (Blk.drewN hb3 _))))
        go_wp2
        go_roundw
        case rel => exact ⟨k + 1, 7, 7, by omega, by go_num, by omega, by omega, by omega, by omega, Or.inr rfl, by rw [show (((k + 1 : Nat) : Int)) = (k : Int) + 1 by omega, Z.out]; exact hb3.drewN _, below_drewN (below_only hwr ho3 hB (Nat.le_refl _)) _⟩
        case measure => simp [intOf]; omega
      · rw [if_neg hc] at hmn
        have z0 : ((k : Int) + 1) % (1 + x) = 0 := hmn
        have eR : rR (1 + x) (b + 1) m = 1 + x := by unfold rR; rw [if_pos (by omega)]; omega
        have eK : rK (1 + x) (b + 1) m = 0 := if_pos (by omega)
        have eF : rF m F 7 = 7 := by unfold rF; split <;> omega
        have ER := Lib.hid eR
        have EK := Lib.hid eK
        have EF := Lib.hid eF
        have HF := Lib.hid (show m = 0 ∨ 7 < F + (b + 1) by omega)
        have Z := Lib.hid z0
        clear eR eK eF hmn hf
        go_wp2_with fail
        refine (raise_not _ (1 + x) (b + 1) N m F 7 _ hb ho (by omega) (by omega) (by omega) HF.out).mono ?_
        rintro r w3 ⟨rfl, hb3, ho3⟩
        rw [EK.out, EF.out] at hb3
        rw [ER.out]
        go_wp2_with fail
        go_quiet ((go_at_call 17; exact q_left (has_any _ _ _ _ _ _ _ (Blk.drewN hb3 _))))
        go_wp2
        go_roundw
        case rel => exact ⟨k + 1, 7, 7, by omega, by go_num, by omega, by omega, by omega, by omega, Or.inr rfl, by rw [show (((k + 1 : Nat) : Int)) = (k : Int) + 1 by omega, Z.out]; exact hb3.drewN _, below_drewN (below_only hwr ho3 hB (Nat.le_refl _)) _⟩
        case measure => simp [intOf]; omega
    · have hkc : c % 40 = (k : Int) := by omega
      have hrest : c % 40 % (1 + x) = (k : Int) % (1 + x) := by rw [hkc]
      generalize (k : Int) % (1 + x) = m at *
      have ho : KOK (1 + x) (b + 1) N m F := ⟨by omega, by omega, by omega, by omega, by omega, by omega, by omega, by omega, by omega⟩
      have hd : ¬ (k : Int) + 1 ≤ c % 40 := by omega
      clear hkc
      by_cases hm : m = 0
      · subst hm
        clear hf
        go_wp2_with fail
        refine (go_not _ (1 + x) (b + 1) N 0 F (7 + b + 1) _ hb ho (by omega) (by omega) (Or.inl rfl)).mono ?_
        rintro r w3 ⟨rfl, hb3, ho3⟩
        go_wp2_with (go_at_call 17; refine (has_any _ _ _ _ _ _ _ hb3).mono ?_; rintro r w' ⟨rfl, rfl⟩)
        go_ret
        exact ⟨rfl, below_only hwr ho3 hB (Nat.le_refl _)⟩
      · have hF7 : F ≤ 7 ∧ 7 ≤ F := by omega
        clear hf
        go_wp2_with fail
        refine (go_due _ (1 + x) (b + 1) N m F (7 + b + 1) _ hb ho (by omega) (by omega) (by omega) (by omega)).mono ?_
        rintro r w3 ⟨rfl, hb3, ho3⟩
        go_wp2_with (go_at_call 17; refine (has_any _ _ _ _ _ _ _ hb3).mono ?_; rintro r w' ⟨rfl, rfl⟩)
        go_ret
        exact ⟨rfl, below_only hwr ho3 hB (Nat.le_refl _)⟩

set_option maxRecDepth 100000 in
theorem lifted (os : Os) (started : os.Started) (H : Type) (enc : TypeId × Value → H) :
    ReturnsInHanded {} Try.checked os 5 .any (Rows.coalCountsSpec.pre6 enc Try.prog Try.f5 Rows.coalCountsRow.domain false) (Rows.coalCountsSpec.post enc Try.prog Try.f5 false true false false) := by
  refine law_lifted (C := Try.checked) (tb := 4) own started (by kernel_rfl) Try.func5
    (ChangeSpec.witness6 (enc := enc) (C := Try.checked) false ⟨#[], #[.int .u8 0, .int .u8 0, .int .u8 0], []⟩ 8 (by kernel_rfl) (by kernel_rfl) (by kernel_rfl) (by kernel_rfl)) laid (by kernel_rfl) (by kernel_rfl) Try.underlying4 rfl ?_
  intro W base args ds ps hval0 hA0 hlt
  have hval : ∀ (j : Nat) t v, Try.f5.params[j]? = some t → args[j]? = some v → Value.okWide Try.prog W .any base t v := hval0
  have hA : DataW.TrodAll enc Try.prog W 0 (fun _ => true) true Try.f5.params.toList args.toList ds ps := hA0
  clear hA0 hval0
  rw [Try.params5] at hA hval
  obtain ⟨v0, vs0, d0, ds0, p0, q0, hargs, rfl, rfl, h0, r0⟩ := trodAll_cons hA
  obtain ⟨v1, vs1, d1, ds1, p1, q1, rfl, rfl, rfl, h1, r1⟩ := trodAll_cons r0
  obtain ⟨v2, vs2, d2, ds2, p2, q2, rfl, rfl, rfl, h2, r2⟩ := trodAll_cons r1
  obtain ⟨rfl, rfl, rfl⟩ := trodAll_nil r2
  obtain rfl : args = #[v0, v1, v2] := by cases args; simp_all
  obtain ⟨a0, rfl, rfl, rfl, w0⟩ := open_int Try.underlying5 (hval 0 5 v0 rfl rfl) h0
  obtain ⟨a1, rfl, rfl, rfl, w1⟩ := open_int Try.underlying5 (hval 1 5 v1 rfl rfl) h1
  obtain ⟨a2, rfl, rfl, rfl, w2⟩ := open_int Try.underlying5 (hval 2 5 v2 rfl rfl) h2
  refine ⟨⟨rfl, rfl, rfl⟩, ?_⟩
  have b0 := bounds_u8 w0
  have b1 := bounds_u8 w1
  have b2 := bounds_u8 w2
  exact walk a0 a1 a2 W b0 b1 b2

theorem over : Rows.coalCountsRow.holds Try.pinned (OpenSpec.ofChange Rows.coalCountsSpec) :=
  OpenClaim.holds_of_wide 5 Try.f5 rfl rfl rfl rfl rfl rfl rfl ⟨rfl, rfl, rfl, rfl, rfl⟩ rfl rfl rfl rfl rfl (by kernel_rfl) Try.func5 (by kernel_rfl)
    (of_decide_eq_true (by kernel_rfl)) (by unfold Func.isWrapper; first | (rw [if_pos (by decide +kernel)]; kernel_rfl) | (rw [if_neg (by decide +kernel)]; exact ⟨rfl, rfl⟩))
    (fun os started H enc _ => lifted os started H enc)
theorem proved : Rows.CoalCountsSaid := over
#print axioms proved
end Go.Proofs.Ytfidjjeignljjaa.coalCounts
