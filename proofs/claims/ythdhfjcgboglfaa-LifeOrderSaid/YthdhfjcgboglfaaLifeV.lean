/- Layer 19: answers to a book of the first requests. -/
import Derived.Test.YthdhfjcgboglfaaLifeU
namespace Go.Proofs.Ythdhfjcgboglfaa
open Go.RowKit
set_option linter.unusedVariables false
set_option maxRecDepth 100000
set_option maxHeartbeats 2000000
/-- A book whose requests of a list came out. -/
def stL (C : Int) (op : Nat → Option (Int × Int)) (l : List Nat) (un : List Ft) : Bk := ⟨C, 0, opJ op l, un⟩
section
variable {C : Int} {op : Nat → Option (Int × Int)} {l : List Nat} {un : List Ft} {i k : Nat} {d st : Int}
theorem out_L (U : UqO op) (pos : ∀ k x, op k = some x → 0 ≤ x.1) (h : op k = some ((i : Int), d)) (hi : i ∉ l) (f : Ft) (hf : f.id = (i : Int)) :
    slotO (stL C op l un).op f.id = some k ∧ (stL C op l un).out f = stL C op (l ++ [i]) (un ++ [f]) := by
  have hj : opJ op l k = some ((i : Int), d) := opJ_of h (by show (i : Int).toNat ∉ l; rw [Int.toNat_natCast]; exact hi)
  have hs : slotO (stL C op l un).op f.id = some k := by rw [hf]; exact (U.opJ l).slot hj
  refine ⟨hs, ?_⟩
  rw [Bk.out_some hs]
  show (⟨C, 0, updO (opJ op l) k none, un ++ [f]⟩ : Bk) = _
  rw [opJ_step U pos h]; rfl
theorem ans_L (U : UqO op) (pos : ∀ k x, op k = some x → 0 ≤ x.1) (h : op k = some ((i : Int), d)) (hi : i ∉ l) (h0 : 0 ≤ st) (h1 : st ≤ 255) (bad : Bool) :
    ansA (stL C op l un) (i : Int) st = 0 ∧ (stL C op l un).ans (i : Int) st bad = stL C op (l ++ [i]) (un ++ [if bad then ⟨(i : Int), 2, 2⟩ else ⟨(i : Int), 1, st⟩]) := by
  have hc : ¬ (st < 0 ∨ 255 < st) := by omega
  have ho := out_L (C := C) (un := un) U pos h hi (if bad then (⟨(i : Int), 2, 2⟩ : Ft) else ⟨(i : Int), 1, st⟩) (by cases bad <;> rfl)
  constructor
  · unfold ansA outA
    rw [if_neg hc, if_pos]
    have := ho.1
    rw [show (if bad = true then (⟨(i : Int), 2, 2⟩ : Ft) else ⟨(i : Int), 1, st⟩).id = (i : Int) by cases bad <;> rfl] at this
    rw [this]; rfl
  · unfold Bk.ans
    rw [if_neg hc]
    exact ho.2
/-- A request that came out already isn't open. -/
theorem ans_L6 (hi : ∀ k d, opJ op l k ≠ some ((i : Int), d)) (h0 : 0 ≤ st) (h1 : st ≤ 255) (bad : Bool) :
    ansA (stL C op l un) (i : Int) st = 6 ∧ (stL C op l un).ans (i : Int) st bad = stL C op l un := by
  have hc : ¬ (st < 0 ∨ 255 < st) := by omega
  have hs : slotO (stL C op l un).op (i : Int) = none := by
    cases hs : slotO (stL C op l un).op (i : Int) with
    | none => rfl
    | some j => obtain ⟨_, d, h⟩ := slot_some hs; exact absurd h (hi j d)
  constructor
  · unfold ansA outA
    rw [if_neg hc, hs]; rfl
  · unfold Bk.ans
    rw [if_neg hc]
    refine Bk.out_none ?_
    rw [show (if bad = true then (⟨(i : Int), 2, 2⟩ : Ft) else ⟨(i : Int), 1, st⟩).id = (i : Int) by cases bad <;> rfl]
    exact hs
end
end Go.Proofs.Ythdhfjcgboglfaa
