/- Layer 9: the check of bytes, the program's and the document's. -/
import Derived.Test.YtninpnlmmaleaaaRows
import Derived.Test.YtninpnlmmaleaaaRd
import Derived.WalkKit
import Derived.Lib.Hide
import Derived.Test.YtninpnlmmaleaaaSep
import Derived.LoopTactic
import Derived.IntWalk
import Derived.Test.YtninpnlmmaleaaaDescM
namespace Go.Proofs.Ytninpnlmmaleaaa
open Go.RowKit
set_option linter.unusedVariables false
set_option maxRecDepth 100000
set_option maxHeartbeats 400000
theorem chk_step {x c : Int} {k n : Nat} (hx : 0 ≤ x ∧ x < 256) (hk : k < n) (hn : n ≤ 100000) : 0 ≤ x * ((k : Int) + 1) ∧ x * ((k : Int) + 1) ≤ 25600000 := by
  refine ⟨Int.mul_nonneg hx.1 (by omega), ?_⟩
  have h1 : x * ((k : Int) + 1) ≤ 256 * ((k : Int) + 1) := Int.mul_le_mul_of_nonneg_right (by omega) (by omega)
  omega
section
variable {w : World} {A : Option Addr} {n cap : Nat} {f : Nat → Int}
theorem check_c (rd : Rd w A n (fun j => .int .u8 (f j))) (hf : ∀ j, j < n → 0 ≤ f j ∧ f j < 256) (hn : n ≤ 100000) :
    Calls Try.prog 17 #[.slice A n cap] w fun e w' => e = .returned (.int .u32 (chk f n)) ∧ w = w' := by
  go_enter Try.func17, Try.ntmps17
  go_wp2_with fail
  go_loopw [3, 8] (fun s i wr => ∃ k : Nat, k ≤ n ∧ i = .int .i64 k ∧ s = .int .i64 (chk f k) ∧ wr = w) (fun _ i _ => n - (intOf i).toNat)
  case atStart => exact ⟨0, by omega, rfl, rfl, rfl⟩
  case round =>
    obtain ⟨k, hk, rfl, rfl, rfl⟩ := hrel
    have hc := chk_bd f k
    by_cases hlt : k < n
    · obtain ⟨b, off, rfl, hb, hcell⟩ := rd (by omega)
      have ck := hcell k hlt
      have hx := hf k hlt
      have HE := Lib.hid (show chk f (k + 1) = (chk f k + f k * ((k : Int) + 1)) % 16777216 from rfl)
      have hs := chk_step (c := 0) hx hlt hn
      dsimp only at ck
      clear hcell hf
      generalize f k = x at *
      generalize chk f k = c at *
      have HW := Lib.hid (show (wrap64 (c + wrap64 (x * ((k : Int) + 1)))).tmod 16777216 = (c + x * ((k : Int) + 1)) % 16777216 by
        have e1 : wrap64 (x * ((k : Int) + 1)) = x * ((k : Int) + 1) := IntWalk.wrap64_in _ ⟨by omega, by omega⟩
        have e2 : wrap64 (c + x * ((k : Int) + 1)) = c + x * ((k : Int) + 1) := IntWalk.wrap64_in _ ⟨by omega, by omega⟩
        rw [e1, e2, Int.tmod_eq_emod_of_nonneg (by omega)])
      go_wp2
      go_roundw
      case rel => exact ⟨k + 1, by omega, by go_num, by rw [HE.out, ← HW.out], trivial⟩
      case measure => simp [intOf]; omega
    · obtain rfl : k = n := by omega
      go_wp2
      go_ret
      exact ⟨rfl, rfl⟩
theorem rcheck_c (rd : Rd w A n (fun j => .int .u8 (f j))) (hf : ∀ j, j < n → 0 ≤ f j ∧ f j < 256) (hn : n ≤ 100000) :
    Calls Try.prog 18 #[.slice A n cap] w fun e w' => e = .returned (.int .u32 (chk f n)) ∧ w = w' := by
  go_enter Try.func18, Try.ntmps18
  go_wp2_with fail
  go_loopw [3, 4] (fun s i wr => ∃ k : Nat, k ≤ n ∧ i = .int .i64 k ∧ s = .int .i64 (chk f k) ∧ wr = w) (fun _ i _ => n - (intOf i).toNat)
  case atStart => exact ⟨0, by omega, rfl, rfl, rfl⟩
  case round =>
    obtain ⟨k, hk, rfl, rfl, rfl⟩ := hrel
    have hc := chk_bd f k
    by_cases hlt : k < n
    · obtain ⟨b, off, rfl, hb, hcell⟩ := rd (by omega)
      have ck := hcell k hlt
      have hx := hf k hlt
      have HE := Lib.hid (show chk f (k + 1) = (chk f k + f k * ((k : Int) + 1)) % 16777216 from rfl)
      have hs := chk_step (c := 0) hx hlt hn
      dsimp only at ck
      clear hcell hf
      generalize f k = x at *
      generalize chk f k = c at *
      have HW := Lib.hid (show (wrap64 (c + wrap64 (((k : Int) + 1) * x))).tmod 16777216 = (c + x * ((k : Int) + 1)) % 16777216 by
        rw [Int.mul_comm] at hs
        have e1 : wrap64 (((k : Int) + 1) * x) = ((k : Int) + 1) * x := IntWalk.wrap64_in _ ⟨by omega, by omega⟩
        have e2 : wrap64 (c + ((k : Int) + 1) * x) = c + ((k : Int) + 1) * x := IntWalk.wrap64_in _ ⟨by omega, by omega⟩
        rw [e1, e2, Int.tmod_eq_emod_of_nonneg (by omega), Int.mul_comm])
      go_wp2
      go_roundw
      case rel => exact ⟨k + 1, by omega, by go_num, by rw [HE.out, ← HW.out], trivial⟩
      case measure => simp [intOf]; omega
    · obtain rfl : k = n := by omega
      go_wp2
      go_ret
      exact ⟨rfl, rfl⟩
end
end Go.Proofs.Ytninpnlmmaleaaa
