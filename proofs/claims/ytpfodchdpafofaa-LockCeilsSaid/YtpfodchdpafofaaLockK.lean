/- Layer 23: what the document lets; a list of ceilings that came in. -/
import Derived.Test.YtpfodchdpafofaaLockJ
import Derived.Test.YtpfodchdpafofaaOpen
import Derived.Test.YtpfodchdpafofaaRd
namespace Go.Proofs.Ytpfodchdpafofaa
open Go.RowKit
set_option linter.unusedVariables false
set_option maxRecDepth 100000
set_option maxHeartbeats 4000000
/-- May these be a keeper's? -/
def mayK (l : List Int) : Prop := (∀ x ∈ l, 0 ≤ x ∧ x ≤ 100) ∧ 1 ≤ l.length ∧ l.length ≤ 16
instance (l : List Int) : Decidable (mayK l) := by unfold mayK; infer_instance
theorem rMay_c (w : World) {A : Option Addr} {n d : Nat} {l : List Int} (hr : Rds w A n 1 (cvs l)) (hl : l.length = n) (hn : n ≤ 9223372036854775807) (b : Bool) (hb : b = decide (mayK l)) :
    Calls Try.prog 8 #[.slice A n d] w fun e w' => e = .returned (.bool b) ∧ w = w' := by
  have HR := Lib.hid hr
  have HL := Lib.hid hl
  have HB := Lib.hid hb
  clear hr hl hb
  go_enter Try.func8, Try.ntmps8
  go_wp2_with fail
  go_loopw [3] (fun t wr => ∃ j : Nat, j ≤ n ∧ t = .int .i64 (j : Int) ∧ (∀ i x, i < j → l[i]? = some x → 0 ≤ x ∧ x ≤ 100) ∧ wr = w) (fun t _ => n - (intOf t).toNat)
  case atStart => exact ⟨0, by omega, rfl, fun i x h => by omega, rfl⟩
  case round =>
  obtain ⟨j, hj, rfl, hall, rfl⟩ := hrel
  have HA := Lib.hid hall
  clear hall
  by_cases hjn : j < n
  · obtain ⟨x, hx⟩ : ∃ x, l[j]? = some x := ⟨_, List.getElem?_eq_getElem (by rw [HL.out]; exact hjn)⟩
    obtain ⟨g, off, rfl, hg⟩ := HR.out.2.resolve_left (by omega)
    have a0 := hg j _ (cvs_get hx)
    have t1 : decide ((j : Int) < (n : Int)) = true := decide_eq_true (by omega)
    have t1' : decide (j < n) = true := decide_eq_true hjn
    have j0 : (0 : Int) ≤ (j : Int) := by omega
    have j1 : (j : Int) < (n : Int) := by omega
    have HX := Lib.hid hx
    clear hx hg
    by_cases hc : 0 ≤ x ∧ x ≤ 100
    · have d1 : decide (x < 0) = false := decide_eq_false (by omega)
      have d2 : decide (100 < x) = false := decide_eq_false (by omega)
      have HA' := Lib.hid (show ∀ i y, i < j + 1 → l[i]? = some y → 0 ≤ y ∧ y ≤ 100 from fun i y hi hy => by
        rcases Nat.lt_or_ge i j with h | h
        · exact HA.out i y h hy
        · obtain rfl : i = j := by omega
          rw [HX.out] at hy; injection hy with hy; rw [← hy]; exact hc)
      clear hc
      go_wp2_with fail
      go_roundw
      case rel => exact ⟨j + 1, by omega, by go_num, HA'.out, by first | rfl | trivial⟩
      case measure => simp [intOf]; omega
    · obtain rfl : b = false := by rw [HB.out]; exact decide_eq_false fun h => hc (h.1 x (List.mem_of_getElem? HX.out))
      by_cases h0 : x < 0
      · have d1 : decide (x < 0) = true := decide_eq_true h0
        clear hc h0
        go_wp2_with fail
        go_ret
        exact ⟨rfl, rfl⟩
      · have d1 : decide (x < 0) = false := decide_eq_false h0
        have d2 : decide (100 < x) = true := decide_eq_true (by omega)
        clear hc h0
        go_wp2_with fail
        go_ret
        exact ⟨rfl, rfl⟩
  · have t1 : decide ((j : Int) < (n : Int)) = false := decide_eq_false (by omega)
    have t1' : decide (j < n) = false := decide_eq_false hjn
    have hba : b = (decide (1 ≤ (n : Int)) && decide ((n : Int) ≤ 16)) := by
      rw [HB.out, ← Bool.decide_and, decide_eq_decide]
      unfold mayK
      rw [HL.out]
      refine ⟨fun h => by omega, fun h => ⟨fun x hx => ?_, by omega⟩⟩
      obtain ⟨i, hi⟩ := List.getElem?_of_mem hx
      have := (List.getElem?_eq_some_iff.1 hi).1
      rw [HL.out] at this
      exact HA.out i x (by omega) hi
    have HBA := Lib.hid hba
    clear hba
    by_cases h1 : 1 ≤ n
    · have d1 : decide (1 ≤ (n : Int)) = true := decide_eq_true (by omega)
      have d1' : decide (1 ≤ n) = true := decide_eq_true h1
      have HBB := Lib.hid (show b = decide ((n : Int) ≤ 16) by rw [HBA.out, d1]; simp)
      have d3 : decide ((n : Int) ≤ 16) = decide (n ≤ 16) := by rw [decide_eq_decide]; omega
      have HBC := Lib.hid (show b = decide (n ≤ 16) by rw [HBB.out, d3])
      clear d3
      go_wp2_with fail
      go_ret
      first
        | exact ⟨by rw [HBB.out]; rfl, rfl⟩
        | exact ⟨by rw [HBC.out]; rfl, rfl⟩
    · have d1 : decide (1 ≤ (n : Int)) = false := decide_eq_false (by omega)
      have d1' : decide (1 ≤ n) = false := decide_eq_false h1
      obtain rfl : b = false := by rw [HBA.out, d1]; rfl
      go_wp2_with fail
      go_ret
      exact ⟨rfl, rfl⟩
/-- A list of structs of one integer, as it came in. -/
theorem list_of {w : World} {A : Option Addr} {n : Nat} {V : Nat → Nat → Value} (rd : RdM w A n 1 V) (hV : ∀ j, j < n → ∃ z : Int, V j 0 = .int .i64 z) : ∃ l : List Int, l.length = n ∧ Rds w A n 1 (cvs l) := by
  refine ⟨(List.range n).map fun j => intOf (V j 0), by simp, by simp [cvs], ?_⟩
  by_cases h0 : n = 0
  · exact Or.inl h0
  · obtain ⟨b, off, rfl, _, hc⟩ := rd (by omega)
    refine Or.inr ⟨b, off, rfl, fun j u hu => ?_⟩
    have hj : j < n := by
      have := (List.getElem?_eq_some_iff.1 hu).1
      simpa [cvs] using this
    obtain ⟨z, hz⟩ := hV j hj
    have := hc j hj 0 (by omega)
    rw [Nat.mul_one, Nat.add_zero] at this
    rw [this, hz]
    have e : (cvs ((List.range n).map fun j => intOf (V j 0)))[j]? = some (.int .i64 (intOf (V j 0))) := cvs_get (by simp [hj])
    rw [e, hz] at hu
    rw [← hu]; rfl
theorem Rds.stay {w w' : World} {A : Option Addr} {n s : Nat} {xs : List Value} (h : Rds w A n s xs) (hb : Below w.heap.size w w') : Rds w' A n s xs := by
  refine ⟨h.1, h.2.imp id fun ⟨g, off, e, hc⟩ => ⟨g, off, e, fun j u hu => ?_⟩⟩
  have := hc j u hu
  rw [hb.cell (block_lt this)]; exact this
end Go.Proofs.Ytpfodchdpafofaa
