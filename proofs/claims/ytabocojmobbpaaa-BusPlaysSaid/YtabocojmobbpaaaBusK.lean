/- Layer 6: the document's own masters that may be. -/
import Derived.Test.YtabocojmobbpaaaBusJ
namespace Go.Proofs.Ytabocojmobbpaaa
open Go.RowKit
set_option linter.unusedVariables false
set_option maxRecDepth 100000
set_option maxHeartbeats 400000
theorem rbM_yes (p u B P : Int) (w : World) (h : okM p u B P) :
    Calls Try.prog 12 #[.agg #[.int .i64 p, .int .i64 u, .int .u64 B, .int .u64 P]] w fun e w' => e = .returned (.bool true) ∧ Below w.heap.size w w' := by
  obtain ⟨⟨h1, h2⟩, ⟨h3, h4⟩, h5⟩ := h
  have d1 : decide (0 ≤ p) = true := decide_eq_true h1
  have d2 : decide (p ≤ 100) = true := decide_eq_true h2
  have d3 : decide (0 ≤ u) = true := decide_eq_true h3
  have d4 : decide (u ≤ 1000) = true := decide_eq_true h4
  go_enter Try.func12, Try.ntmps12
  go_wp2_with fail
  refine (rsmay_yes B P _ h5).mono ?_
  rintro e w1 ⟨rfl, hw1⟩
  go_wp2_with fail
  go_ret
  exact ⟨rfl, below_box hw1⟩
theorem rbM_no (p u B P : Int) (w : World) (h : ¬ okM p u B P) :
    Calls Try.prog 12 #[.agg #[.int .i64 p, .int .i64 u, .int .u64 B, .int .u64 P]] w fun e w' => e = .returned (.bool false) ∧ Below w.heap.size w w' := by
  unfold okM at h
  by_cases h1 : 0 ≤ p
  · have d1 : decide (0 ≤ p) = true := decide_eq_true h1
    by_cases h2 : p ≤ 100
    · have d2 : decide (p ≤ 100) = true := decide_eq_true h2
      by_cases h3 : 0 ≤ u
      · have d3 : decide (0 ≤ u) = true := decide_eq_true h3
        by_cases h4 : u ≤ 1000
        · have d4 : decide (u ≤ 1000) = true := decide_eq_true h4
          have h5 : ¬ (1 ≤ B ∧ B ≤ P ∧ P ≤ 1099511627776) := fun h6 => h ⟨⟨h1, h2⟩, ⟨h3, h4⟩, h6⟩
          clear h
          have H5 := Lib.hid h5
          clear h5
          go_enter Try.func12, Try.ntmps12
          go_wp2_with fail
          refine (rsmay_no B P _ H5.out).mono ?_
          rintro e w1 ⟨rfl, hw1⟩
          go_wp2_with fail
          go_ret
          exact ⟨rfl, below_box hw1⟩
        · have d4 : decide (u ≤ 1000) = false := decide_eq_false h4
          clear h
          go_enter Try.func12, Try.ntmps12
          go_wp2_with fail
          go_ret
          exact ⟨rfl, (Below.refl _ _).alloc (Nat.le_refl _) _⟩
      · have d3 : decide (0 ≤ u) = false := decide_eq_false h3
        clear h
        go_enter Try.func12, Try.ntmps12
        go_wp2_with fail
        go_ret
        exact ⟨rfl, (Below.refl _ _).alloc (Nat.le_refl _) _⟩
    · have d2 : decide (p ≤ 100) = false := decide_eq_false h2
      clear h
      go_enter Try.func12, Try.ntmps12
      go_wp2_with fail
      go_ret
      exact ⟨rfl, (Below.refl _ _).alloc (Nat.le_refl _) _⟩
  · have d1 : decide (0 ≤ p) = false := decide_eq_false h1
    clear h
    go_enter Try.func12, Try.ntmps12
    go_wp2_with fail
    go_ret
    exact ⟨rfl, (Below.refl _ _).alloc (Nat.le_refl _) _⟩
section
variable {w0 w w' : World} {S0 : Nat → Prop} {L : List Res} {C : BC} {A : Option Addr} {cap : Nat} {V : Nat → Nat → Value}
theorem all_bad (w : World) (hm : C.n ≤ maxLen) (rd : RdM w A C.n 4 V) (hV : MV C V) (h : ¬ ∀ i, i < C.n → okM (C.prio i) (C.burst i) (C.B i) (C.P i)) :
    Calls Try.prog 13 #[.slice A C.n cap] w fun e w' => e = .returned (.bool false) ∧ Below w.heap.size w w' := by
  unfold maxLen at hm
  obtain ⟨i0, h2, h3, h4⟩ := first_bad h
  clear h
  go_enter Try.func13, Try.ntmps13
  go_wp2_with fail
  go_loopw [3] (fun i wr => ∃ k : Nat, k ≤ i0 ∧ i = .int .i64 k ∧ Below w.heap.size w wr) (fun i _ => C.n - (intOf i).toNat)
  case atStart => exact ⟨0, by omega, rfl, Below.refl _ _⟩
  case round =>
    obtain ⟨k, hk, rfl, hB⟩ := hrel
    have hlt : k < C.n := by omega
    obtain ⟨ib, off, rfl, e0, e1, e2, e3⟩ := hV.at_ rd hB hlt
    by_cases hlt2 : k < i0
    · have HY := Lib.hid (h4 k hlt2)
      clear h3 h4
      go_wp2_with fail
      refine (rbM_yes _ _ _ _ _ HY.out).mono ?_
      rintro e w1 ⟨rfl, hw1⟩
      have hB3 := below_then hB hw1
      go_wp2
      go_roundw
      case rel => exact ⟨k + 1, by omega, by go_num, hB3⟩
      case measure => simp [intOf]; omega
    · obtain rfl : k = i0 := by omega
      have HY := Lib.hid h3
      clear h3 h4
      go_wp2_with fail
      refine (rbM_no _ _ _ _ _ HY.out).mono ?_
      rintro e w1 ⟨rfl, hw1⟩
      have hB3 := below_then hB hw1
      go_wp2
      go_ret
      exact ⟨rfl, hB3⟩
theorem all_len (w : World) (hm : C.n ≤ maxLen) (rd : RdM w A C.n 4 V) (hV : MV C V) (h : ∀ i, i < C.n → okM (C.prio i) (C.burst i) (C.B i) (C.P i)) (x : Bool) (hx : x = (decide (1 ≤ C.n) && decide (C.n ≤ 16))) :
    Calls Try.prog 13 #[.slice A C.n cap] w fun e w' => e = .returned (.bool x) ∧ Below w.heap.size w w' := by
  unfold maxLen at hm
  have HX := Lib.hid hx
  clear hx
  go_enter Try.func13, Try.ntmps13
  go_wp2_with fail
  go_loopw [3] (fun i wr => ∃ k : Nat, k ≤ C.n ∧ i = .int .i64 k ∧ Below w.heap.size w wr) (fun i _ => C.n - (intOf i).toNat)
  case atStart => exact ⟨0, by omega, rfl, Below.refl _ _⟩
  case round =>
    obtain ⟨k, hk, rfl, hB⟩ := hrel
    by_cases hlt : k < C.n
    · obtain ⟨ib, off, rfl, e0, e1, e2, e3⟩ := hV.at_ rd hB hlt
      have HY := Lib.hid (h k hlt)
      clear h
      go_wp2_with fail
      refine (rbM_yes _ _ _ _ _ HY.out).mono ?_
      rintro e w1 ⟨rfl, hw1⟩
      have hB3 := below_then hB hw1
      go_wp2
      go_roundw
      case rel => exact ⟨k + 1, by omega, by go_num, hB3⟩
      case measure => simp [intOf]; omega
    · obtain rfl : k = C.n := by omega
      clear h
      by_cases g1 : 1 ≤ C.n
      · have d1 : decide (1 ≤ (C.n : Int)) = true := decide_eq_true (by omega)
        by_cases g2 : C.n ≤ 16
        · have d2 : decide ((C.n : Int) ≤ 16) = true := decide_eq_true (by omega)
          have hx : x = true := by rw [HX.out]; simp [g1, g2]
          have HX2 := Lib.hid hx
          clear hx
          go_wp2
          go_ret
          exact ⟨by rw [HX2.out]; rfl, hB⟩
        · have d2 : decide ((C.n : Int) ≤ 16) = false := decide_eq_false (by omega)
          have hx : x = false := by rw [HX.out]; simp [g2]
          have HX2 := Lib.hid hx
          clear hx
          go_wp2
          go_ret
          exact ⟨by rw [HX2.out]; rfl, hB⟩
      · have d1 : decide (1 ≤ (C.n : Int)) = false := decide_eq_false (by omega)
        have hx : x = false := by rw [HX.out]; simp [g1]
        have HX2 := Lib.hid hx
        clear hx
        go_wp2
        go_ret
        exact ⟨by rw [HX2.out]; rfl, hB⟩
/-- Masters that were let in. -/
theorem all_any (w : World) (hm : C.n ≤ maxLen) (rd : RdM w A C.n 4 V) (hV : MV C V) :
    ∃ x : Bool, (x = true → 1 ≤ C.n ∧ C.n ≤ 16 ∧ ∀ i, i < C.n → okM (C.prio i) (C.burst i) (C.B i) (C.P i)) ∧ (x = false → ¬ (1 ≤ C.n ∧ C.n ≤ 16) ∨ ¬ ∀ i, i < C.n → okM (C.prio i) (C.burst i) (C.B i) (C.P i)) ∧
      Calls Try.prog 13 #[.slice A C.n cap] w fun e w' => e = .returned (.bool x) ∧ Below w.heap.size w w' := by
  by_cases h : ∀ i, i < C.n → okM (C.prio i) (C.burst i) (C.B i) (C.P i)
  · refine ⟨_, fun hx => ?_, fun hx => ?_, all_len w hm rd hV h _ rfl⟩
    · simp at hx; exact ⟨hx.1, hx.2, h⟩
    · left; intro h2; simp [h2.1, h2.2] at hx
  · exact ⟨false, (fun hx => by cases hx), fun _ => Or.inr h, all_bad w hm rd hV h⟩
theorem bc_ok {ph : Int} (h1 : 1 ≤ C.n) (h16 : C.n ≤ 16) (h : ∀ i, i < C.n → okM (C.prio i) (C.burst i) (C.B i) (C.P i)) (hp : C.ph = ph) (h0 : 0 ≤ ph ∧ ph < 4611686018427387904) : C.OK :=
  ⟨h1, h16, fun i hi => (h i hi).1, fun i hi => (h i hi).2.1, fun i hi => (h i hi).2.2, by rw [hp]; exact h0⟩
end
/-- The masters that a slice holds. -/
def bcOf (n : Nat) (V : Nat → Nat → Value) (ph : Int) : BC := ⟨n, fun i => intOf (V i 0), fun i => intOf (V i 1), fun i => intOf (V i 2), fun i => intOf (V i 3), ph⟩
theorem mvOf {n : Nat} {V : Nat → Nat → Value} {ph : Int} (f0 : ∀ j, j < n → ∃ z, V j 0 = .int .i64 z) (f1 : ∀ j, j < n → ∃ z, V j 1 = .int .i64 z) (f2 : ∀ j, j < n → ∃ z, V j 2 = .int .u64 z) (f3 : ∀ j, j < n → ∃ z, V j 3 = .int .u64 z) : MV (bcOf n V ph) V :=
  ⟨fun j hj => by obtain ⟨z, hz⟩ := f0 j hj; simp [bcOf, hz, intOf], fun j hj => by obtain ⟨z, hz⟩ := f1 j hj; simp [bcOf, hz, intOf], fun j hj => by obtain ⟨z, hz⟩ := f2 j hj; simp [bcOf, hz, intOf], fun j hj => by obtain ⟨z, hz⟩ := f3 j hj; simp [bcOf, hz, intOf]⟩
end Go.Proofs.Ytabocojmobbpaaa
