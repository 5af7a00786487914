/- Layer 9: are two rows of bytes the same? -/
import Derived.Test.YtninpnlmmaleaaaDescC
import Derived.Deep.DeepCutAuto
import Derived.BigRegion
namespace Go.Proofs.Ytninpnlmmaleaaa
open Go.RowKit
set_option linter.unusedVariables false
set_option maxRecDepth 100000
set_option maxHeartbeats 400000
section
variable {w : World} {A B : Option Addr} {n m cap cap2 : Nat} {f g : Nat → Int}
/-- Of rows as long as one another: the same, if each byte is. -/
theorem same_eq (rd : Rd w A n (fun j => .int .u8 (f j))) (rd2 : Rd w B n (fun j => .int .u8 (g j))) (hm : n ≤ maxLen) (x : Bool) (hx : x = decide (∀ j, j < n → f j = g j)) :
    Calls Try.prog 13 #[.slice A n cap, .slice B n cap2] w fun e w' => e = .returned (.bool x) ∧ Below w.heap.size w w' := by
  unfold maxLen at hm
  have HX := Lib.hid hx
  clear hx
  go_enter Try.func13, Try.ntmps13
  go_wp2_with fail
  go_loopw [5] (fun i wr => ∃ k : Nat, k ≤ n ∧ i = .int .i64 k ∧ (∀ j, j < k → f j = g j) ∧ St w None wr []) (fun i _ => n - (intOf i).toNat)
  case atStart => exact ⟨0, by omega, rfl, fun j hj => absurd hj (by omega), St.begin w⟩
  case round =>
    obtain ⟨k, hk, rfl, heq, sr⟩ := hrel
    by_cases hlt : k < n
    · obtain ⟨b, off, rfl, hb, hcell⟩ := rd.below sr.below (Nat.le_refl _) (by omega)
      obtain ⟨b2, off2, rfl, hb2, hcell2⟩ := rd2.below sr.below (Nat.le_refl _) (by omega)
      have c1 := hcell k hlt
      have c2 := hcell2 k hlt
      dsimp only at c1 c2
      have HQ := Lib.hid heq
      have SR := Lib.hid sr
      clear hcell hcell2 heq sr
      generalize hy : f k = y at *
      generalize hz : g k = z at *
      have i0 : (0 : Int) ≤ (k : Int) := by omega
      have i1 : (k : Int) < (n : Int) := by omega
      by_cases e : y = z
      · have d1 : (y != z) = false := by simp [bne, e]
        have HE := Lib.hid (show ∀ j, j < k + 1 → f j = g j from fun j hj => by
          by_cases e2 : j = k
          · rw [e2, hy, hz, e]
          · exact HQ.out j (by omega))
        clear e hy hz
        go_wp2_with fail
        go_quiet (fail)
        go_wp2_with fail
        go_roundw
        case rel => exact ⟨k + 1, by omega, by go_num, HE.out, SR.out.drewN _⟩
        case measure => simp [intOf]; omega
      · have d1 : (y != z) = true := by simp [bne, e]
        have HE := Lib.hid (show x = false by
          rw [HX.out]
          exact decide_eq_false fun h => e (by rw [← hy, ← hz]; exact h k hlt))
        clear e hy hz
        go_wp2_with fail
        go_quiet (fail)
        go_wp2_with fail
        go_ret
        exact ⟨by rw [HE.out]; rfl, (SR.out.drewN _).below⟩
    · obtain rfl : k = n := by omega
      have HE := Lib.hid (show x = true by rw [HX.out]; exact decide_eq_true heq)
      clear heq
      go_wp2
      go_ret
      exact ⟨by rw [HE.out]; rfl, sr.below⟩
/-- Of rows not as long as one another: not the same. -/
theorem same_len (w : World) (h : n ≠ m) :
    Calls Try.prog 13 #[.slice A n cap, .slice B m cap2] w fun e w' => e = .returned (.bool false) ∧ w = w' := by
  have d1 : ((n : Int) != (m : Int)) = true := by simp [bne]; omega
  go_enter Try.func13, Try.ntmps13
  go_wp2_with fail
  go_ret
  exact ⟨rfl, rfl⟩
end
end Go.Proofs.Ytninpnlmmaleaaa
