/- Layer 25: may a record be? -/
import Derived.Test.YtlceanlenekanaaDoorCalQ
import Derived.Test.YtlceanlenekanaaDoorTraB
namespace Go.Proofs.YtlceanlenekanaaDoor
open Go.RowKit
set_option linter.unusedVariables false
set_option maxRecDepth 100000
set_option maxHeartbeats 4000000

theorem mayWho_o (x : Int) (w : World) : Calls Tryd.prog 21 #[.int .i64 x] w fun e w' => e = .returned (.bool (mayW x)) ∧ w = w' := by
  have dd : (x < -1) ∨ (x = -1) ∨ (0 ≤ x ∧ x < 32) ∨ (32 ≤ x ∧ x < 100) ∨ (100 ≤ x ∧ x < 116) ∨ (116 ≤ x) := by omega
  rcases dd with dd | dd | dd | dd | dd | dd
  · have b1 : (x == -1) = false := beq_eq_false_iff_ne.2 (by omega)
    have b2 : decide (0 ≤ x) = false := decide_eq_false (by omega)
    have b3 : decide (x < 32) = true := decide_eq_true (by omega)
    have b4 : decide (100 ≤ x) = false := decide_eq_false (by omega)
    have b5 : decide (x < 116) = true := decide_eq_true (by omega)
    have hv : mayW x = false := by unfold mayW; rw [show decide (x = -1) = false from decide_eq_false (by omega), b2, b3, b4, b5]; rfl
    rw [hv]
    clear hv dd
    go_enter Tryd.func21, Tryd.ntmps21
    go_wp2
    go_ret
    exact ⟨rfl, rfl⟩
  · have b1 : (x == -1) = true := beq_iff_eq.2 (by omega)
    have b2 : decide (0 ≤ x) = false := decide_eq_false (by omega)
    have b3 : decide (x < 32) = true := decide_eq_true (by omega)
    have b4 : decide (100 ≤ x) = false := decide_eq_false (by omega)
    have b5 : decide (x < 116) = true := decide_eq_true (by omega)
    have hv : mayW x = true := by unfold mayW; rw [show decide (x = -1) = true from decide_eq_true (by omega), b2, b3, b4, b5]; rfl
    rw [hv]
    clear hv dd
    go_enter Tryd.func21, Tryd.ntmps21
    go_wp2
    go_ret
    exact ⟨rfl, rfl⟩
  · have b1 : (x == -1) = false := beq_eq_false_iff_ne.2 (by omega)
    have b2 : decide (0 ≤ x) = true := decide_eq_true (by omega)
    have b3 : decide (x < 32) = true := decide_eq_true (by omega)
    have b4 : decide (100 ≤ x) = false := decide_eq_false (by omega)
    have b5 : decide (x < 116) = true := decide_eq_true (by omega)
    have hv : mayW x = true := by unfold mayW; rw [show decide (x = -1) = false from decide_eq_false (by omega), b2, b3, b4, b5]; rfl
    rw [hv]
    clear hv dd
    go_enter Tryd.func21, Tryd.ntmps21
    go_wp2
    go_ret
    exact ⟨rfl, rfl⟩
  · have b1 : (x == -1) = false := beq_eq_false_iff_ne.2 (by omega)
    have b2 : decide (0 ≤ x) = true := decide_eq_true (by omega)
    have b3 : decide (x < 32) = false := decide_eq_false (by omega)
    have b4 : decide (100 ≤ x) = false := decide_eq_false (by omega)
    have b5 : decide (x < 116) = true := decide_eq_true (by omega)
    have hv : mayW x = false := by unfold mayW; rw [show decide (x = -1) = false from decide_eq_false (by omega), b2, b3, b4, b5]; rfl
    rw [hv]
    clear hv dd
    go_enter Tryd.func21, Tryd.ntmps21
    go_wp2
    go_ret
    exact ⟨rfl, rfl⟩
  · have b1 : (x == -1) = false := beq_eq_false_iff_ne.2 (by omega)
    have b2 : decide (0 ≤ x) = true := decide_eq_true (by omega)
    have b3 : decide (x < 32) = false := decide_eq_false (by omega)
    have b4 : decide (100 ≤ x) = true := decide_eq_true (by omega)
    have b5 : decide (x < 116) = true := decide_eq_true (by omega)
    have hv : mayW x = true := by unfold mayW; rw [show decide (x = -1) = false from decide_eq_false (by omega), b2, b3, b4, b5]; rfl
    rw [hv]
    clear hv dd
    go_enter Tryd.func21, Tryd.ntmps21
    go_wp2
    go_ret
    exact ⟨rfl, rfl⟩
  · have b1 : (x == -1) = false := beq_eq_false_iff_ne.2 (by omega)
    have b2 : decide (0 ≤ x) = true := decide_eq_true (by omega)
    have b3 : decide (x < 32) = false := decide_eq_false (by omega)
    have b4 : decide (100 ≤ x) = true := decide_eq_true (by omega)
    have b5 : decide (x < 116) = false := decide_eq_false (by omega)
    have hv : mayW x = false := by unfold mayW; rw [show decide (x = -1) = false from decide_eq_false (by omega), b2, b3, b4, b5]; rfl
    rw [hv]
    clear hv dd
    go_enter Tryd.func21, Tryd.ntmps21
    go_wp2
    go_ret
    exact ⟨rfl, rfl⟩
theorem rises_o (A : Option Addr) (n c : Nat) (xs : List Int) (w : World) (hn : xs.length = n) (hn2 : n ≤ 1000000) (hA : RdI w A xs) :
    Calls Tryd.prog 22 #[.slice A n c] w fun e w' => e = .returned (.bool (rsI (-1) xs)) ∧ w = w' := by
  go_enter Tryd.func22, Tryd.ntmps22
  go_wp2
  go_loopw [3, 5, 8] (fun x3 _ x8 wr => ∃ (i : Nat) (a : Int), i ≤ n ∧ x3 = .int .i64 a ∧ x8 = .int .i64 (i : Int) ∧ rsI (-1) xs = rsI a (xs.drop i) ∧ wr = w) (fun _ _ x8 _ => n - (intOf x8).toNat)
  case atStart => exact ⟨0, -1, Nat.zero_le _, rfl, rfl, rfl, rfl⟩
  case round =>
  obtain ⟨i, a, hi, rfl, rfl, hr, rfl⟩ := hrel
  have HR := Lib.hid hr
  clear hr
  by_cases hlt : i < n
  · have z1 : decide ((i : Int) < (n : Int)) = true := decide_eq_true (by omega)
    obtain ⟨x, hx⟩ : ∃ x, xs[i]? = some x := ⟨xs[i]'(by omega), List.getElem?_eq_getElem _⟩
    obtain ⟨g, o, rfl, l1, c1⟩ := hA i x hx
    have hd : xs.drop i = x :: xs.drop (i + 1) := by
      obtain ⟨h1, h2⟩ := List.getElem?_eq_some_iff.1 hx
      rw [← h2]; exact List.drop_eq_getElem_cons h1
    have HD := Lib.hid hd
    clear hd hx
    by_cases a1 : x ≤ a
    · have y1 : decide (x ≤ a) = true := decide_eq_true a1
      go_wp2
      go_ret
      exact ⟨by rw [HR.out, HD.out, rsI, decide_eq_false (show ¬ a < x by omega)]; rfl, rfl⟩
    have y1 : decide (x ≤ a) = false := decide_eq_false a1
    by_cases a2 : (32 : Int) ≤ x
    · have y2 : decide ((32 : Int) ≤ x) = true := decide_eq_true a2
      go_wp2
      go_ret
      exact ⟨by rw [HR.out, HD.out, rsI, decide_eq_false (show ¬ x < 32 by omega), Bool.and_false]; rfl, rfl⟩
    have y2 : decide ((32 : Int) ≤ x) = false := decide_eq_false a2
    go_wp2
    go_roundw
    case rel => exact ⟨i + 1, x, by omega, rfl, by go_num, by rw [HR.out, HD.out, rsI, decide_eq_true (show a < x by omega), decide_eq_true (show x < 32 by omega)]; rfl, by first | trivial | rfl⟩
    case measure => simp [intOf]; omega
  obtain rfl : i = n := by omega
  have z1 : decide ((i : Int) < (i : Int)) = false := decide_eq_false (by omega)
  go_wp2
  go_ret
  exact ⟨by rw [HR.out, List.drop_of_length_le (by omega)]; rfl, rfl⟩
/-- An outcome's cells. -/
def fV (f : Int × Int × Int) : Array Value := #[.int .i64 f.1, .int .i64 f.2.1, .int .i64 f.2.2]
theorem mayFate_o (x k y : Int) (w : World) : Calls Tryd.prog 20 #[.agg #[.int .i64 x, .int .i64 k, .int .i64 y]] w fun e w' => e = .returned (.bool (mayF (x, k, y))) ∧ Below w.heap.size w w' := by
  have hb := (St.begin w).box 36 #[.int .i64 x, .int .i64 k, .int .i64 y]
  obtain ⟨p0, p1, p2⟩ := (hb.blk 0 rfl).three
  have HB := Lib.hid hb.below
  clear hb
  unfold mayF
  dsimp only
  have dd : (x < 0) ∨ (65535 < x) ∨ (0 ≤ x ∧ x ≤ 65535 ∧ k = 1 ∧ y < 0) ∨ (0 ≤ x ∧ x ≤ 65535 ∧ k = 1 ∧ 255 < y) ∨ (0 ≤ x ∧ x ≤ 65535 ∧ k = 1 ∧ 0 ≤ y ∧ y ≤ 255) ∨ (0 ≤ x ∧ x ≤ 65535 ∧ k = 2 ∧ y < 1) ∨ (0 ≤ x ∧ x ≤ 65535 ∧ k = 2 ∧ 3 < y) ∨ (0 ≤ x ∧ x ≤ 65535 ∧ k = 2 ∧ 1 ≤ y ∧ y ≤ 3) ∨ (0 ≤ x ∧ x ≤ 65535 ∧ k ≠ 1 ∧ k ≠ 2) := by omega
  rcases dd with dd | dd | dd | dd | dd | dd | dd | dd | dd
  · have b1 : decide (x < 0) = true := decide_eq_true (by omega)
    rw [show (decide (0 ≤ x) && decide (x ≤ 65535) && ((decide (k = 1) && (decide (0 ≤ y) && decide (y ≤ 255))) || (decide (k = 2) && (decide (1 ≤ y) && decide (y ≤ 3))))) = false from by rw [Bool.eq_false_iff]; intro h; simp only [Bool.and_eq_true, Bool.or_eq_true, decide_eq_true_eq] at h; omega]
    clear dd
    go_enter Tryd.func20, Tryd.ntmps20
    go_wp2
    go_ret
    exact ⟨rfl, HB.out⟩
  · have b1 : decide (x < 0) = false := decide_eq_false (by omega)
    have b2 : decide (65535 < x) = true := decide_eq_true (by omega)
    rw [show (decide (0 ≤ x) && decide (x ≤ 65535) && ((decide (k = 1) && (decide (0 ≤ y) && decide (y ≤ 255))) || (decide (k = 2) && (decide (1 ≤ y) && decide (y ≤ 3))))) = false from by rw [Bool.eq_false_iff]; intro h; simp only [Bool.and_eq_true, Bool.or_eq_true, decide_eq_true_eq] at h; omega]
    clear dd
    go_enter Tryd.func20, Tryd.ntmps20
    go_wp2
    go_ret
    exact ⟨rfl, HB.out⟩
  · have b1 : decide (x < 0) = false := decide_eq_false (by omega)
    have b2 : decide (65535 < x) = false := decide_eq_false (by omega)
    have b3 : (k == 1) = true := beq_iff_eq.2 (by omega)
    have b4 : decide (0 ≤ y) = false := decide_eq_false (by omega)
    rw [show (decide (0 ≤ x) && decide (x ≤ 65535) && ((decide (k = 1) && (decide (0 ≤ y) && decide (y ≤ 255))) || (decide (k = 2) && (decide (1 ≤ y) && decide (y ≤ 3))))) = false from by rw [Bool.eq_false_iff]; intro h; simp only [Bool.and_eq_true, Bool.or_eq_true, decide_eq_true_eq] at h; omega]
    clear dd
    go_enter Tryd.func20, Tryd.ntmps20
    go_wp2
    go_ret
    exact ⟨rfl, HB.out⟩
  · have b1 : decide (x < 0) = false := decide_eq_false (by omega)
    have b2 : decide (65535 < x) = false := decide_eq_false (by omega)
    have b3 : (k == 1) = true := beq_iff_eq.2 (by omega)
    have b4 : decide (0 ≤ y) = true := decide_eq_true (by omega)
    have b5 : decide (y ≤ 255) = false := decide_eq_false (by omega)
    rw [show (decide (0 ≤ x) && decide (x ≤ 65535) && ((decide (k = 1) && (decide (0 ≤ y) && decide (y ≤ 255))) || (decide (k = 2) && (decide (1 ≤ y) && decide (y ≤ 3))))) = false from by rw [Bool.eq_false_iff]; intro h; simp only [Bool.and_eq_true, Bool.or_eq_true, decide_eq_true_eq] at h; omega]
    clear dd
    go_enter Tryd.func20, Tryd.ntmps20
    go_wp2
    go_ret
    exact ⟨rfl, HB.out⟩
  · have b1 : decide (x < 0) = false := decide_eq_false (by omega)
    have b2 : decide (65535 < x) = false := decide_eq_false (by omega)
    have b3 : (k == 1) = true := beq_iff_eq.2 (by omega)
    have b4 : decide (0 ≤ y) = true := decide_eq_true (by omega)
    have b5 : decide (y ≤ 255) = true := decide_eq_true (by omega)
    rw [show (decide (0 ≤ x) && decide (x ≤ 65535) && ((decide (k = 1) && (decide (0 ≤ y) && decide (y ≤ 255))) || (decide (k = 2) && (decide (1 ≤ y) && decide (y ≤ 3))))) = true from by simp only [Bool.and_eq_true, Bool.or_eq_true, decide_eq_true_eq]; omega]
    clear dd
    go_enter Tryd.func20, Tryd.ntmps20
    go_wp2
    go_ret
    exact ⟨rfl, HB.out⟩
  · have b1 : decide (x < 0) = false := decide_eq_false (by omega)
    have b2 : decide (65535 < x) = false := decide_eq_false (by omega)
    have b3 : (k == 1) = false := beq_eq_false_iff_ne.2 (by omega)
    have b33 : (k == 2) = true := beq_iff_eq.2 (by omega)
    have b4 : decide (1 ≤ y) = false := decide_eq_false (by omega)
    rw [show (decide (0 ≤ x) && decide (x ≤ 65535) && ((decide (k = 1) && (decide (0 ≤ y) && decide (y ≤ 255))) || (decide (k = 2) && (decide (1 ≤ y) && decide (y ≤ 3))))) = false from by rw [Bool.eq_false_iff]; intro h; simp only [Bool.and_eq_true, Bool.or_eq_true, decide_eq_true_eq] at h; omega]
    clear dd
    go_enter Tryd.func20, Tryd.ntmps20
    go_wp2
    go_ret
    exact ⟨rfl, HB.out⟩
  · have b1 : decide (x < 0) = false := decide_eq_false (by omega)
    have b2 : decide (65535 < x) = false := decide_eq_false (by omega)
    have b3 : (k == 1) = false := beq_eq_false_iff_ne.2 (by omega)
    have b33 : (k == 2) = true := beq_iff_eq.2 (by omega)
    have b4 : decide (1 ≤ y) = true := decide_eq_true (by omega)
    have b5 : decide (y ≤ 3) = false := decide_eq_false (by omega)
    rw [show (decide (0 ≤ x) && decide (x ≤ 65535) && ((decide (k = 1) && (decide (0 ≤ y) && decide (y ≤ 255))) || (decide (k = 2) && (decide (1 ≤ y) && decide (y ≤ 3))))) = false from by rw [Bool.eq_false_iff]; intro h; simp only [Bool.and_eq_true, Bool.or_eq_true, decide_eq_true_eq] at h; omega]
    clear dd
    go_enter Tryd.func20, Tryd.ntmps20
    go_wp2
    go_ret
    exact ⟨rfl, HB.out⟩
  · have b1 : decide (x < 0) = false := decide_eq_false (by omega)
    have b2 : decide (65535 < x) = false := decide_eq_false (by omega)
    have b3 : (k == 1) = false := beq_eq_false_iff_ne.2 (by omega)
    have b33 : (k == 2) = true := beq_iff_eq.2 (by omega)
    have b4 : decide (1 ≤ y) = true := decide_eq_true (by omega)
    have b5 : decide (y ≤ 3) = true := decide_eq_true (by omega)
    rw [show (decide (0 ≤ x) && decide (x ≤ 65535) && ((decide (k = 1) && (decide (0 ≤ y) && decide (y ≤ 255))) || (decide (k = 2) && (decide (1 ≤ y) && decide (y ≤ 3))))) = true from by simp only [Bool.and_eq_true, Bool.or_eq_true, decide_eq_true_eq]; omega]
    clear dd
    go_enter Tryd.func20, Tryd.ntmps20
    go_wp2
    go_ret
    exact ⟨rfl, HB.out⟩
  · have b1 : decide (x < 0) = false := decide_eq_false (by omega)
    have b2 : decide (65535 < x) = false := decide_eq_false (by omega)
    have b3 : (k == 1) = false := beq_eq_false_iff_ne.2 (by omega)
    have b33 : (k == 2) = false := beq_eq_false_iff_ne.2 (by omega)
    rw [show (decide (0 ≤ x) && decide (x ≤ 65535) && ((decide (k = 1) && (decide (0 ≤ y) && decide (y ≤ 255))) || (decide (k = 2) && (decide (1 ≤ y) && decide (y ≤ 3))))) = false from by rw [Bool.eq_false_iff]; intro h; simp only [Bool.and_eq_true, Bool.or_eq_true, decide_eq_true_eq] at h; omega]
    clear dd
    go_enter Tryd.func20, Tryd.ntmps20
    go_wp2
    go_ret
    exact ⟨rfl, HB.out⟩
end Go.Proofs.YtlceanlenekanaaDoor
