/- Layer 24: what the statements begin with: a pool of four buffers, all got, a device, a bus, an engine. -/
import Derived.Test.YtdjhpdacglojaaaGreatEngE
import Derived.Test.YtdjhpdacglojaaaGreatRpP
import Derived.Test.YtdjhpdacglojaaaGreatBsB
namespace Go.Proofs.YtdjhpdacglojaaaGreat
open Go.RowKit
set_option linter.unusedVariables false
set_option maxRecDepth 100000
set_option maxHeartbeats 1600000
def z4 : List Nat := [8, 8, 8, 8]
def egS (k : Nat) : Nat → po.Buf := fun j => if j < k then po.got (po.fresh z4 j) else po.fresh z4 j
theorem egS_0 : egS 0 = po.fresh z4 := by funext j; exact if_neg (by omega)
theorem egS_len (k : Nat) : ∀ j, j < 4 → (egS k j).bs.length = 8 ∧ (egS k j).gen = 1 ∧ (egS k j).owner = (if j < k then 1 else 0) ∧ (egS k j).bs = List.replicate 8 0 := fun j hj => by
  unfold egS
  rcases (show j = 0 ∨ j = 1 ∨ j = 2 ∨ j = 3 by omega) with rfl | rfl | rfl | rfl <;> split <;> exact ⟨rfl, rfl, rfl, rfl⟩
theorem egS_ok (k : Nat) : po.POK 4 (egS k) 1 := by
  refine ⟨by omega, by omega, by omega, fun j hj => ?_⟩
  obtain ⟨h1, h2, h3, h4⟩ := egS_len k j hj
  refine ⟨by rw [h2]; omega, by rw [h3]; split <;> omega, ?_, by omega⟩
  unfold egS po.got po.fresh; split <;> simp
theorem egS_get {k : Nat} (hk : k < 4) : po.GetP 4 (egS k) 1 (k : Int) 1 0 (egS (k + 1)) := by
  refine Or.inr (Or.inr ⟨⟨by omega, by rw [(egS_len k 3 (by omega)).1]; decide⟩, k, hk, fun j hj hf => ?_, ?_, rfl, (egS_len k k hk).2.1.symm, rfl, ?_⟩)
  · have h := (egS_len k j (by omega)).2.2.1
    rw [if_pos hj] at h
    have := hf.1
    omega
  · refine ⟨by rw [(egS_len k k hk).2.2.1, if_neg (by omega)], ?_⟩
    rw [(egS_len k k hk).1]
    decide
  · have e1 : egS k k = po.fresh z4 k := if_neg (by omega)
    rw [e1]
    funext j
    by_cases e : j = k
    · rw [e, po.updB_self]; exact if_pos (by omega)
    · rw [po.updB_ne _ _ e]; unfold egS
      by_cases h : j < k
      · rw [if_pos h, if_pos (by omega)]
      · rw [if_neg h, if_neg (by omega)]
theorem egI {k : Nat} : DvI 4 2 1 (Dv.new (egS k) 5) := DvI.new (egS_ok k) (by omega) (by omega) rfl (fun i hi => by
  rw [(egS_len k i hi).2.2.1]
  split <;> omega)
theorem may4 : po.mayC 1 (fun _ => 8) (fun _ => 4) := by decide
theorem flat4 : po.flatC (fun _ => 8) (fun _ => 4) 1 = z4 := by decide
section
variable {w0 w : World} {S0 : Nat → Prop} {X N L : List Res} {C : bs.BC} {A : Option Addr} {cap : Nat} {V : Nat → Nat → Value}
theorem classes24_c (w : World) : Calls Tryz.prog 32 #[] w fun e w' => e = .returned (.slice (some ⟨w.heap.size, 0, none⟩) 1 1) ∧ w' = w.alloc (.cells #[.int .i64 8, .int .i64 4] 186) := by
  go_enter Tryz.func32, Tryz.ntmps32
  go_wp2_with fail
  go_ret
  exact ⟨rfl, rfl⟩
theorem rnew20_c (r : Nat) (w : World) : Calls Tryz.prog 40 #[ptrV r, .int .i64 2, .int .u64 5] w fun e w' => (∃ d, e = .returned (ptrV d)) ∧ Below w.heap.size w w' := by
  go_enter Tryz.func40, Tryz.ntmps40
  go_wp2_with fail
  go_ret
  refine ⟨⟨_, rfl⟩, ?_⟩
  exact ((((Below.refl _ _).alloc (Nat.le_refl _) _).alloc (by simp) _).alloc (by simp; omega) _).alloc (by simp; omega) _
theorem rnew24_c (d b : Nat) (w : World) : Calls Tryz.prog 39 #[ptrV d, ptrV b, .int .i64 0] w fun e w' => (∃ r, e = .returned (ptrV r)) ∧ Below w.heap.size w w' := by
  go_enter Tryz.func39, Tryz.ntmps39
  go_wp2_with fail
  go_ret
  exact ⟨⟨_, rfl⟩, (Below.refl _ _).alloc (Nat.le_refl _) _⟩
end
end Go.Proofs.YtdjhpdacglojaaaGreat
