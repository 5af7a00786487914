/-
  For every 32-bit time, every array of two 16-bit numbers and every 8-bit number TickPhase answers true, and changes nothing: a phase that is later by whole periods counts as many windows less, with the same beginnings. No condition.
-/
import Derived.Test.YtbhkghlgchoglaaRows
import Derived.Test.YtbhkghlgchoglaaFr
import Derived.Test.YtbhkghlgchoglaaTickAw
import Derived.Test.YtbhkghlgchoglaaTickV
namespace Go.Proofs.Ytbhkghlgchoglaa.tickPhase
open Go.ChangeShapes Go.WideShapes Go.ChangeAt Go.RowKit
set_option linter.unusedVariables false
theorem own : ownKnob Try.prog.godebug = none := by kernel_rfl
theorem laid : laidOutB Try.prog = true := by kernel_rfl
theorem shift {t p d n : Int} (hd : 1 ≤ d) : (t - (p + n * d)) / d + n = (t - p) / d ∧ p + n * d + (t - (p + n * d)) / d * d = p + (t - p) / d * d := by
  have e : (t - (p + n * d)) / d = (t - p) / d - n := by
    rw [show t - (p + n * d) = t - p + (-n) * d by rw [Int.neg_mul]; omega, Int.add_mul_ediv_right _ _ (by omega)]; omega
  rw [e]
  refine ⟨by omega, ?_⟩
  rw [Int.sub_mul]; omega
theorem walk (t p d k : Int) (w : World) (b0 : 0 ≤ t ∧ t ≤ 4294967295) (b1 : 0 ≤ p ∧ p ≤ 65535) (b2 : 0 ≤ d ∧ d ≤ 65535) (b3 : 0 ≤ k ∧ k ≤ 255) :
    Calls Try.prog 10 #[.int .u32 t, .agg #[.int .u16 p, .int .u16 d], .int .u8 k] w fun e w' => e = .returned (.bool true) ∧ Below w.heap.size w w' := by
  have n0 : 0 ≤ k % 20 := Int.emod_nonneg _ (by omega)
  have n1 : k % 20 < 20 := Int.emod_lt_of_pos _ (by omega)
  have n2 : 0 ≤ k % 20 * (1 + d) := Int.mul_nonneg n0 (by omega)
  have n3 : k % 20 * (1 + d) ≤ 19 * 65536 := Int.mul_le_mul (by omega) (by omega) (by omega) (by omega)
  generalize hn : k % 20 = n at *


  by_cases hq : p + n * (1 + d) ≤ t
  · have hp : p ≤ t := by omega
    have y := fun w => window_ok t p (1 + d) w (by omega) hp (by omega) (by omega)
    have z := fun w => window_ok t (p + n * (1 + d)) (1 + d) w (by omega) hq (by omega) (by omega)
    obtain ⟨e1, e2⟩ := shift (t := t) (p := p) (d := 1 + d) (n := n) (by omega)
    obtain ⟨m0, m1, _⟩ := win_le hp (show 1 ≤ 1 + d by omega)
    obtain ⟨m2, m3, _⟩ := win_le hq (show 1 ≤ 1 + d by omega)
    rw [e2] at z
    have y2 : ((t - p) / (1 + d) == (t - (p + n * (1 + d))) / (1 + d) + n) = true := by rw [e1]; exact beq_iff_eq.2 rfl
    clear e1 e2
    generalize (t - (p + n * (1 + d))) / (1 + d) = J at *
    generalize p + (t - p) / (1 + d) * (1 + d) = A at *
    generalize (t - p) / (1 + d) = K at *
    have Y := Lib.hid y
    have Z := Lib.hid z
    clear y z
    go_enter Try.func10, Try.ntmps10
    go_wp2_with (first | (go_at_call 11; refine (awake_any _).mono ?_; rintro e w' ⟨rfl, rfl⟩) | (go_at_call 20; ((with_reducible refine (Y.out _).mono ?_); rintro e w' ⟨rfl, rfl⟩)) | (go_at_call 20; ((with_reducible refine (Z.out _).mono ?_); rintro e w' ⟨rfl, rfl⟩)))
    go_ret
    exact ⟨rfl, by repeat (first | exact Below.refl _ _ | apply Below.drew | refine Below.alloc ?_ (by simp) _)⟩
  · have Z := Lib.hid fun w => window_arg t (p + n * (1 + d)) (1 + d) w (by omega) (by omega) (by omega)
    have d1 : decide (t < p + n * (1 + d)) = true := decide_eq_true (by omega)
    by_cases hp : p ≤ t
    · have Y := Lib.hid fun w => window_ok t p (1 + d) w (by omega) hp (by omega) (by omega)
      clear hq
      go_enter Try.func10, Try.ntmps10
      go_wp2_with (first | (go_at_call 11; refine (awake_any _).mono ?_; rintro e w' ⟨rfl, rfl⟩) | (go_at_call 20; ((with_reducible refine (Y.out _).mono ?_); rintro e w' ⟨rfl, rfl⟩)) | (go_at_call 20; ((with_reducible refine (Z.out _).mono ?_); rintro e w' ⟨rfl, rfl⟩)))
      go_ret
      exact ⟨rfl, by repeat (first | exact Below.refl _ _ | apply Below.drew | refine Below.alloc ?_ (by simp) _)⟩
    · have Y := Lib.hid fun w => window_arg t p (1 + d) w (by omega) (by omega) (by omega)
      clear hq hp
      go_enter Try.func10, Try.ntmps10
      go_wp2_with (first | (go_at_call 11; refine (awake_any _).mono ?_; rintro e w' ⟨rfl, rfl⟩) | (go_at_call 20; ((with_reducible refine (Y.out _).mono ?_); rintro e w' ⟨rfl, rfl⟩)) | (go_at_call 20; ((with_reducible refine (Z.out _).mono ?_); rintro e w' ⟨rfl, rfl⟩)))
      go_ret
      exact ⟨rfl, by repeat (first | exact Below.refl _ _ | apply Below.drew | refine Below.alloc ?_ (by simp) _)⟩

set_option maxRecDepth 100000 in
theorem lifted (os : Os) (started : os.Started) (H : Type) (enc : TypeId × Value → H) :
    ReturnsInHanded {} Try.checked os 10 .any (Rows.tickPhaseSpec.pre6 enc Try.prog Try.f10 Rows.tickPhaseRow.domain false) (Rows.tickPhaseSpec.post enc Try.prog Try.f10 false true false false) := by
  refine law_lifted (C := Try.checked) (tb := 4) own started (by kernel_rfl) Try.func10
    (ChangeSpec.witness6 (enc := enc) (C := Try.checked) false ⟨#[], #[.int .u32 0, .agg #[.int .u16 0, .int .u16 0], .int .u8 0], []⟩ 8 (by kernel_rfl) (by kernel_rfl) (by kernel_rfl) (by kernel_rfl)) laid (by kernel_rfl) (by kernel_rfl) Try.underlying4 rfl ?_
  intro W base args ds ps hval0 hA0 hlt
  have hval : ∀ (j : Nat) t v, Try.f10.params[j]? = some t → args[j]? = some v → Value.okWide Try.prog W .any base t v := hval0
  have hA : DataW.TrodAll enc Try.prog W 0 (fun _ => true) true Try.f10.params.toList args.toList ds ps := hA0
  clear hA0 hval0
  rw [Try.params10] at hA hval
  obtain ⟨v0, vs0, d0, ds0, p0, q0, hargs, rfl, rfl, h0, r0⟩ := trodAll_cons hA
  obtain ⟨v1, vs1, d1, ds1, p1, q1, rfl, rfl, rfl, h1, r1⟩ := trodAll_cons r0
  obtain ⟨v2, vs2, d2, ds2, p2, q2, rfl, rfl, rfl, h2, r2⟩ := trodAll_cons r1
  obtain ⟨rfl, rfl, rfl⟩ := trodAll_nil r2
  obtain rfl : args = #[v0, v1, v2] := by cases args; simp_all
  obtain ⟨a0, rfl, rfl, rfl, w0⟩ := open_int Try.underlying34 (hval 0 34 v0 rfl rfl) h0
  obtain ⟨cs1, rfl, sz1, ok1⟩ := open_flat (ts := [36, 36]) (Or.inr ⟨_, _, Try.underlying37⟩) (by kernel_rfl) (by kernel_rfl) (hval 1 37 v1 rfl rfl)
  obtain ⟨c1_0, c1_1, rfl⟩ := size2 sz1
  obtain ⟨a1_0, rfl, w1_0⟩ := cell_int Try.underlying36 (ok1 0 _ _ rfl rfl)
  obtain ⟨a1_1, rfl, w1_1⟩ := cell_int Try.underlying36 (ok1 1 _ _ rfl rfl)
  obtain ⟨a2, rfl, rfl, rfl, w2⟩ := open_int Try.underlying5 (hval 2 5 v2 rfl rfl) h2
  refine ⟨⟨rfl, rfl, rfl⟩, ?_⟩
  have b0 := bounds_u32 w0
  have b1 := bounds_u16 w1_0
  have b2 := bounds_u16 w1_1
  have b3 := bounds_u8 w2
  exact walk a0 a1_0 a1_1 a2 W b0 b1 b2 b3

theorem over : Rows.tickPhaseRow.holds Try.pinned (OpenSpec.ofChange Rows.tickPhaseSpec) :=
  OpenClaim.holds_of_wide 10 Try.f10 rfl rfl rfl rfl rfl rfl rfl ⟨rfl, rfl, rfl, rfl, rfl⟩ rfl rfl rfl rfl rfl (by kernel_rfl) Try.func10 (by kernel_rfl)
    (of_decide_eq_true (by kernel_rfl)) (by unfold Func.isWrapper; first | (rw [if_pos (by decide +kernel)]; kernel_rfl) | (rw [if_neg (by decide +kernel)]; exact ⟨rfl, rfl⟩))
    (fun os started H enc _ => lifted os started H enc)
theorem proved : Rows.TickPhaseSaid := over
#print axioms proved
end Go.Proofs.Ytbhkghlgchoglaa.tickPhase
