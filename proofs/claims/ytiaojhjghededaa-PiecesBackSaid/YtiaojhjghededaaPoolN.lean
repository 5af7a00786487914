/- Layer 7: pools that may be, and are made. -/
import Derived.Test.YtiaojhjghededaaPoolZ
import Derived.Test.YtiaojhjghededaaFlat
namespace Go.Proofs.Ytiaojhjghededaa
open Go.RowKit
set_option linter.unusedVariables false
set_option maxRecDepth 100000
set_option maxHeartbeats 800000
def prevZ (Z : Nat → Int) : Nat → Int
  | 0 => 0
  | k + 1 => Z k
def okC (Z C : Nat → Int) (k : Nat) : Prop := prevZ Z k < Z k ∧ Z k ≤ 65536 ∧ 1 ≤ C k ∧ C k ≤ 100
instance (Z C : Nat → Int) (k : Nat) : Decidable (okC Z C k) := by unfold okC; infer_instance
def mayC (n : Nat) (Z C : Nat → Int) : Prop := (1 ≤ n ∧ n ≤ 8) ∧ ∀ k, k < n → okC Z C k
instance (n : Nat) (Z C : Nat → Int) : Decidable (mayC n Z C) := by unfold mayC; infer_instance
def flatC (Z C : Nat → Int) : Nat → List Nat
  | 0 => []
  | k + 1 => flatC Z C k ++ List.replicate (C k).toNat (Z k).toNat
theorem flatC_len {n : Nat} {Z C : Nat → Int} (h : ∀ k, k < n → okC Z C k) : ∀ k, k ≤ n → (flatC Z C k).length ≤ 100 * k
  | 0, _ => by simp [flatC]
  | k + 1, hk => by
    have h1 := flatC_len h k (by omega)
    have h2 := h k (by omega)
    unfold okC at h2
    simp [flatC]
    omega
def fresh (zs : List Nat) (i : Nat) : Buf := ⟨1, 0, 0, List.replicate (zs.getD i 0) 0⟩
def Cls (V : Nat → Nat → Value) (n : Nat) (Z C : Nat → Int) : Prop := ∀ j, j < n → V j 0 = .int .i64 (Z j) ∧ V j 1 = .int .i64 (C j) ∧ (-9223372036854775808 ≤ Z j ∧ Z j ≤ 9223372036854775807) ∧ (-9223372036854775808 ≤ C j ∧ C j ≤ 9223372036854775807)
section
variable {w0 w : World} {S S0 : Nat → Prop} {N L : List Res} {A : Option Addr} {n cap : Nat} {V : Nat → Nat → Value} {Z C : Nat → Int}
theorem may_c (rd : RdM w A n 2 V) (hV : Cls V n Z C) (hn : n ≤ maxLen) (b : Bool) (hb : b = decide (mayC n Z C)) :
    Calls Try.prog 28 #[.slice A n cap] w fun e w' => e = .returned (.bool b) ∧ Below w.heap.size w w' := by
  unfold maxLen at hn
  have HB := Lib.hid hb
  clear hb
  by_cases h1 : 1 ≤ n
  · have d1 : decide ((n : Int) < 1) = false := decide_eq_false (by omega)
    by_cases h8 : n ≤ 8
    · have d8 : decide (8 < (n : Int)) = false := decide_eq_false (by omega)
      go_enter Try.func28, Try.ntmps28
      go_wp2_with fail
      go_loopw [3, 16] (fun a i wr => ∃ k : Nat, k ≤ n ∧ i = .int .i64 k ∧ a = .int .i64 (prevZ Z k) ∧ (∀ j, j < k → okC Z C j) ∧ Below w.heap.size w wr) (fun _ i _ => n - (intOf i).toNat)
      case atStart => exact ⟨0, by omega, rfl, rfl, fun j hj => absurd hj (by omega), Below.refl _ _⟩
      case round =>
        obtain ⟨k, hk, rfl, rfl, hok, hbl⟩ := hrel
        by_cases hlt : k < n
        · obtain ⟨v0, v1, bz, bc⟩ := hV k hlt
          obtain ⟨ib, off, rfl, e0, e1⟩ := rd.at2 hbl hlt
          rw [v0] at e0
          rw [v1] at e1
          have BL := Lib.hid (fun o => hbl.alloc hbl.size o)
          have HOK := Lib.hid hok
          have HZ := Lib.hid (show prevZ Z (k + 1) = Z k from rfl)
          obtain ⟨pz, hpz⟩ : ∃ x, prevZ Z k = x := ⟨_, rfl⟩
          obtain ⟨z, hz⟩ : ∃ x, Z k = x := ⟨_, rfl⟩
          obtain ⟨cc, hc⟩ : ∃ x, C k = x := ⟨_, rfl⟩
          have HD : okC Z C k ↔ (pz < z ∧ z ≤ 65536 ∧ 1 ≤ cc ∧ cc ≤ 100) := by unfold okC; rw [hpz, hz, hc]
          have HDD := Lib.hid HD
          rw [hz] at e0 bz HZ
          rw [hc] at e1 bc
          rw [hpz]
          have hno : ¬ (pz < z ∧ z ≤ 65536 ∧ 1 ≤ cc ∧ cc ≤ 100) → b = false := fun hh => by
            rw [HB.out]
            exact decide_eq_false fun hm => hh (HDD.out.1 (hm.2 k hlt))
          have HN := Lib.hid hno
          clear hok hbl hpz hz hc HD hno rd hV v0 v1
          by_cases q1 : pz < z
          · have z1 : decide (z ≤ pz) = false := decide_eq_false (by omega)
            by_cases q2 : z ≤ 65536
            · have z2 : decide (65536 < z) = false := decide_eq_false (by omega)
              by_cases q3 : 1 ≤ cc
              · have z3 : decide (cc < 1) = false := decide_eq_false (by omega)
                by_cases q4 : cc ≤ 100
                · have z4 : decide (100 < cc) = false := decide_eq_false (by omega)
                  have HO2 := Lib.hid (show ∀ j, j < k + 1 → okC Z C j from fun j hj => by
                    by_cases e : j = k
                    · rw [e]; exact HDD.out.2 ⟨q1, q2, q3, q4⟩
                    · exact HOK.out j (by omega))
                  go_wp2_with fail
                  go_roundw
                  case rel => exact ⟨k + 1, by omega, by go_num, by rw [HZ.out], HO2.out, BL.out _⟩
                  case measure => simp [intOf]; omega
                · have z4 : decide (100 < cc) = true := decide_eq_true (by omega)
                  obtain rfl := HN.out (fun h => q4 h.2.2.2)
                  go_wp2_with fail
                  go_ret
                  exact ⟨rfl, BL.out _⟩
              · have z3 : decide (cc < 1) = true := decide_eq_true (by omega)
                obtain rfl := HN.out (fun h => q3 h.2.2.1)
                go_wp2_with fail
                go_ret
                exact ⟨rfl, BL.out _⟩
            · have z2 : decide (65536 < z) = true := decide_eq_true (by omega)
              obtain rfl := HN.out (fun h => q2 h.2.1)
              go_wp2_with fail
              go_ret
              exact ⟨rfl, BL.out _⟩
          · have z1 : decide (z ≤ pz) = true := decide_eq_true (by omega)
            obtain rfl := HN.out (fun h => q1 h.1)
            go_wp2_with fail
            go_ret
            exact ⟨rfl, BL.out _⟩
        · obtain rfl : k = n := by omega
          obtain rfl : b = true := by rw [HB.out]; exact decide_eq_true ⟨⟨h1, h8⟩, hok⟩
          clear hok
          go_wp2
          go_ret
          exact ⟨rfl, hbl⟩
    · have d8 : decide (8 < (n : Int)) = true := decide_eq_true (by omega)
      obtain rfl : b = false := by rw [HB.out]; exact decide_eq_false fun h => h8 h.1.2
      go_enter Try.func28, Try.ntmps28
      go_wp2
      go_ret
      exact ⟨rfl, Below.refl _ _⟩
  · have d1 : decide ((n : Int) < 1) = true := decide_eq_true (by omega)
    obtain rfl : b = false := by rw [HB.out]; exact decide_eq_false fun h => h1 h.1.1
    go_enter Try.func28, Try.ntmps28
    go_wp2
    go_ret
    exact ⟨rfl, Below.refl _ _⟩
end
end Go.Proofs.Ytiaojhjghededaa
