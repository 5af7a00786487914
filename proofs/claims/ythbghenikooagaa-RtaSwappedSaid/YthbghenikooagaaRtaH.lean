/- Layer 16: sets that are small; one task alone, and two. -/
import Derived.Test.YthbghenikooagaaRtaG
namespace Go.Proofs.Ythbghenikooagaa
open Go.RowKit
set_option linter.unusedVariables false
set_option maxRecDepth 100000
set_option maxHeartbeats 2000000
section
variable {w0 w : World} {A B : Option Addr} {n m cap capB : Nat} {T : Nat → Wk} {S : Nat → Ld} {L : List Res}
theorem small_c (rd : Ts w A n T) (hn : n ≤ maxLen) (hm : m ≤ maxLen) :
    Calls Try.prog 10 #[.slice A n cap, .slice B m capB] w fun e w' => ∃ b, e = .returned (.bool b) ∧ (b = true → n ≤ 40 ∧ m ≤ 40) ∧ Below w.heap.size w w' := by
  unfold maxLen at hn hm
  go_enter Try.func10, Try.ntmps10
  go_wp2_with fail
  go_loopw [5] (fun i wr => ∃ k : Nat, k ≤ n ∧ i = .int .i64 k ∧ Below w.heap.size w wr) (fun i _ => n - (intOf i).toNat)
  case atStart => exact ⟨0, by omega, rfl, Below.refl _ _⟩
  case round =>
    obtain ⟨k, hk, rfl, hbl⟩ := hrel
    by_cases hlt : k < n
    · obtain ⟨ib, off, rfl, -, -, e2, -⟩ := rd.at_ hbl hlt
      generalize (T k).per = r at *
      clear rd
      by_cases q1 : 2000 < r
      · have z1 : decide (2000 < r) = true := decide_eq_true q1
        by_cases q2 : r ≤ 1073741824
        · have z2 : decide (r ≤ 1073741824) = true := decide_eq_true q2
          go_wp2_with fail
          go_ret
          exact ⟨false, rfl, (fun h => by cases h), hbl⟩
        · have z2 : decide (r ≤ 1073741824) = false := decide_eq_false q2
          go_wp2_with fail
          go_roundw
          case rel => exact ⟨k + 1, by omega, by go_num, hbl⟩
          case measure => simp [intOf]; omega
      · have z1 : decide (2000 < r) = false := decide_eq_false q1
        go_wp2_with fail
        go_roundw
        case rel => exact ⟨k + 1, by omega, by go_num, hbl⟩
        case measure => simp [intOf]; omega
    · obtain rfl : k = n := by omega
      by_cases h1 : k ≤ 40
      · have d1 : decide ((k : Int) ≤ 40) = true := decide_eq_true (by omega)
        have d1' : decide (k ≤ 40) = true := decide_eq_true h1
        by_cases h2 : m ≤ 40
        · have d2 : decide ((m : Int) ≤ 40) = true := decide_eq_true (by omega)
          have d2' : decide (m ≤ 40) = true := decide_eq_true h2
          go_wp2_with fail
          go_ret
          exact ⟨true, rfl, (fun _ => ⟨h1, h2⟩), hbl⟩
        · have d2 : decide ((m : Int) ≤ 40) = false := decide_eq_false (by omega)
          have d2' : decide (m ≤ 40) = false := decide_eq_false h2
          go_wp2_with fail
          go_ret
          exact ⟨false, rfl, (fun h => by cases h), hbl⟩
      · have d1 : decide ((k : Int) ≤ 40) = false := decide_eq_false (by omega)
        have d1' : decide (k ≤ 40) = false := decide_eq_false h1
        go_wp2_with fail
        go_ret
        exact ⟨false, rfl, (fun h => by cases h), hbl⟩
end
def T1 (a : Wk) : Nat → Wk := fun _ => a
def T2 (a b : Wk) : Nat → Wk := fun j => if j = 0 then a else b
theorem lfp_nil {c d : Nat} (h : c ≤ d) : lfp c d [] = some c := lfp_of h (by simp [Fx, tkn]) (fun t ht => by simp [Fx, tkn] at ht; omega)
theorem sok0 (S : Nat → Ld) : SOK 0 S := ⟨by omega, fun j hj => absurd hj (by omega)⟩
theorem time_one {a : Wk} (h : a.ok) (S : Nat → Ld) : timeO 1 (T1 a) 0 S 0 = some a.cost.toNat := by
  unfold timeO
  rw [if_pos ⟨⟨by omega, by omega⟩, ⟨by omega, fun j _ => h⟩, sok0 S⟩]
  obtain ⟨-, h1, h2, -⟩ := h
  have e : whoL (T1 a) S 1 0 (0 : Int).toNat = [] := by simp [whoL, ldl, aht]
  rw [e]
  exact lfp_nil (by show a.cost.toNat ≤ a.dead.toNat; omega)
theorem all_one {a : Wk} (h : a.ok) (S : Nat → Ld) (T : Nat → Wk) : allO (0 + 1) (snoc T 0 a) 0 S := by
  intro i hi
  obtain rfl : i = 0 := by omega
  have e : snoc T 0 a 0 = a := by unfold snoc; rw [if_pos rfl]
  unfold timeO
  rw [if_pos ⟨⟨by omega, by omega⟩, ⟨by omega, fun j hj => by obtain rfl : j = 0 := by omega
                                                              rw [e]; exact h⟩, sok0 S⟩]
  have e2 : whoL (snoc T 0 a) S (0 + 1) 0 (((0 : Nat) : Int)).toNat = [] := by simp [whoL, ldl, aht]
  rw [e2]
  have e3 : snoc T 0 a (((0 : Nat) : Int)).toNat = a := e
  rw [e3]
  obtain ⟨-, h1, h2, -⟩ := h
  rw [lfp_nil (by omega)]; rfl
theorem time_two {a b : Wk} (ha : a.ok) (hb : b.ok) (S : Nat → Ld) : timeO 2 (T2 a b) 0 S 0 = lfp a.cost.toNat a.dead.toNat (if b.prio ≤ a.prio then [wkt b] else []) := by
  unfold timeO
  rw [if_pos ⟨⟨by omega, by omega⟩, ⟨by omega, fun j hj => by
    rcases (show j = 0 ∨ j = 1 by omega) with rfl | rfl
    · exact ha
    · exact hb⟩, sok0 S⟩]
  have e : whoL (T2 a b) S 2 0 (0 : Int).toNat = if b.prio ≤ a.prio then [wkt b] else [] := by
    simp [whoL, ldl, aht, T2]
  rw [e]
  rfl
theorem two_up {a b : Wk} (ha : a.ok) (hb : b.ok) {r : Nat} (h : lfp a.cost.toNat a.dead.toNat [wkt b] = some r) : a.cost + b.cost ≤ (r : Int) := by
  obtain ⟨h1, h2, h3⟩ := lfp_some.1 h
  obtain ⟨-, a1, a2, -⟩ := ha
  obtain ⟨-, b1, b2, b3, -⟩ := hb
  simp only [Fx, tkn, wkt] at h2
  have h4 : 1 ≤ r := by omega
  have h5 := upN_pos (s := r) (p := b.per.toNat) (by omega) h4
  have h6 := Nat.mul_le_mul_right b.cost.toNat h5
  omega
end Go.Proofs.Ythbghenikooagaa
