/- Layer 21: may a command be? -/
import Derived.Test.YtgajcjacnnpfcaaDoorCalE
import Derived.Test.YtgajcjacnnpfcaaDoorCalF
namespace Go.Proofs.YtgajcjacnnpfcaaDoor
open Go.RowKit
set_option linter.unusedVariables false
set_option maxRecDepth 100000
set_option maxHeartbeats 4000000
/-- Numbers as a row of cells. -/
def ivI (xs : List Int) : List Value := xs.map fun x => .int .i64 x
def inN (x : Int) : Bool := decide (0 ≤ x ∧ x ≤ 2147483647)
theorem mayC_alt (n : List UInt8) (xs : List Int) : mayC n xs = (xs.all inN && decide (nm n = some xs.length)) := rfl
theorem all_none {xs : List Int} {i : Nat} {x : Int} (h : xs[i]? = some x) (hx : inN x = false) : xs.all inN = false := by
  rw [Bool.eq_false_iff]
  intro ha
  have := List.all_eq_true.1 ha x (List.mem_of_getElem? h)
  rw [hx] at this
  exact absurd this (by decide)
theorem all_more {xs : List Int} {i : Nat} {x : Int} (h : xs[i]? = some x) (hx : inN x = true) (ha : (xs.take i).all inN = true) : (xs.take (i + 1)).all inN = true := by
  rw [List.take_add_one, h, List.all_append, ha]
  simp [hx]
theorem may_o (s : ByteArray) (A : Option Addr) (n c : Nat) (xs : List Int) (w : World) (hn : xs.length = n) (hn2 : n ≤ 100000) (hx : ∀ x ∈ xs, -9223372036854775808 ≤ x ∧ x ≤ 9223372036854775807) (hA : ∀ i x, xs[i]? = some x → ∃ g off, A = some ⟨g, off, none⟩ ∧ g < w.heap.size ∧ w.cell? ⟨g, off + i, none⟩ = some (.int .i64 x)) :
    Calls Tryd.prog 21 #[.agg #[.string s, .slice A n c]] w fun e w' => e = .returned (.bool (mayC s.data.toList xs)) ∧ Below w.heap.size w w' := by
  have KN := Lib.hid (nums_o s)
  have hb := (St.begin w).box 25 #[.string s, .slice A n c]
  have hcs := (hb.blk 0 rfl).two
  go_enter Tryd.func21, Tryd.ntmps21
  go_wp2
  go_loopw [4, 10] (fun _ x10 wr => ∃ i : Nat, i ≤ n ∧ x10 = .int .i64 (i : Int) ∧ (xs.take i).all inN = true ∧ wr = w.alloc (.cells #[.string s, .slice A n c] 25)) (fun _ x10 _ => n - (intOf x10).toNat)
  case atStart => exact ⟨0, Nat.zero_le _, rfl, rfl, rfl⟩
  case round =>
  obtain ⟨i, hi, rfl, had, rfl⟩ := hrel
  by_cases hlt : i < n
  · have z1 : decide ((i : Int) < (n : Int)) = true := decide_eq_true (by omega)
    obtain ⟨x, hxi⟩ : ∃ x, xs[i]? = some x := ⟨xs[i]'(by omega), List.getElem?_eq_getElem _⟩
    obtain ⟨g, off, rfl, hg, hc0⟩ := hA i x hxi
    have hc : (w.alloc (.cells #[.string s, .slice (some ⟨g, off, none⟩) n c] 25)).cell? ⟨g, off + i, none⟩ = some (.int .i64 x) := by rw [hb.cell (p := ⟨g, off + i, none⟩) hg (fun h => h)]; exact hc0
    obtain ⟨b1, b2⟩ := hx x (List.mem_of_getElem? hxi)
    by_cases a1 : x < 0
    · have y1 : decide (x < 0) = true := decide_eq_true a1
      go_wp2
      go_ret
      exact ⟨by rw [mayC_alt, all_none hxi (decide_eq_false (by omega))]; rfl, hb.below⟩
    have y1 : decide (x < 0) = false := decide_eq_false a1
    by_cases a2 : (2147483647 : Int) < x
    · have y2 : decide ((2147483647 : Int) < x) = true := decide_eq_true a2
      go_wp2
      go_ret
      exact ⟨by rw [mayC_alt, all_none hxi (decide_eq_false (by omega))]; rfl, hb.below⟩
    have y2 : decide ((2147483647 : Int) < x) = false := decide_eq_false a2
    have hm := Lib.hid (all_more hxi (decide_eq_true (show 0 ≤ x ∧ x ≤ 2147483647 by omega)) had)
    clear had
    go_wp2
    go_roundw
    case rel => exact ⟨i + 1, by omega, by go_num, hm.out, by first | trivial | rfl⟩
    case measure => simp [intOf]; omega
  obtain rfl : i = n := by omega
  have z1 : decide ((i : Int) < (i : Int)) = false := decide_eq_false (by omega)
  have hall : xs.all inN = true := by rw [← hn, List.take_length] at had; exact had
  have HA := Lib.hid hall
  clear hall had
  obtain ⟨N, hN⟩ : ∃ N, nm s.data.toList = N := ⟨_, rfl⟩
  unfold numsV at KN
  rw [hN] at KN
  have HN := Lib.hid hN
  clear hN
  cases N with
  | none =>
    go_wp2_with (go_at_call 13; refine (KN.out _).mono ?_; rintro e w2 ⟨rfl, rfl⟩)
    go_ret
    exact ⟨by rw [mayC_alt, HN.out, HA.out]; rfl, hb.below⟩
  | some k =>
    by_cases hk : (i : Int) = (k : Int)
    · have y3 : ((i : Int) == (k : Int)) = true := beq_iff_eq.2 hk
      go_wp2_with (go_at_call 13; refine (KN.out _).mono ?_; rintro e w2 ⟨rfl, rfl⟩)
      go_ret
      exact ⟨by rw [mayC_alt, HN.out, HA.out, decide_eq_true (by rw [hn, show i = k by omega])]; rfl, hb.below⟩
    · have y3 : ((i : Int) == (k : Int)) = false := beq_eq_false_iff_ne.2 hk
      go_wp2_with (go_at_call 13; refine (KN.out _).mono ?_; rintro e w2 ⟨rfl, rfl⟩)
      go_ret
      exact ⟨by rw [mayC_alt, HN.out, HA.out, decide_eq_false (fun h => hk (by rw [hn] at h; have := Option.some.inj h; omega))]; rfl, hb.below⟩
end Go.Proofs.YtgajcjacnnpfcaaDoor
