/- Layer 21: the document's command of a line. -/
import Derived.Test.YtlceanlenekanaaDoorCalN
namespace Go.Proofs.YtlceanlenekanaaDoor
open Go.RowKit
set_option linter.unusedVariables false
set_option maxRecDepth 100000
set_option maxHeartbeats 4000000
theorem mayN_val {l : List UInt8} (h : mayN l = true) : valB l ≤ 2147483647 := by
  unfold mayN at h
  simp only [Bool.and_eq_true, decide_eq_true_eq] at h
  exact h.2
/-- The numbers of a row of words. -/
def numsI (r : List (List UInt8)) : List Int := (r.map valB).map Int.ofNat
theorem numsI_len (r : List (List UInt8)) : (numsI r).length = r.length := by unfold numsI; rw [List.length_map, List.length_map]
theorem numsI_snoc (r : List (List UInt8)) (u : List UInt8) : numsI (r ++ [u]) = numsI r ++ [Int.ofNat (valB u)] := by unfold numsI; rw [List.map_append, List.map_append]; rfl
theorem numsI_in {r : List (List UInt8)} (h : r.all mayN = true) : ∀ x ∈ numsI r, 0 ≤ x ∧ x ≤ 2147483647 := fun x hx => by
  obtain ⟨k, hk, rfl⟩ := List.mem_map.1 hx
  obtain ⟨u, hu, rfl⟩ := List.mem_map.1 hk
  have := mayN_val (List.all_eq_true.1 h u hu)
  exact ⟨Int.natCast_nonneg _, by show ((valB u : Nat) : Int) ≤ _; omega⟩
theorem mayC_nums {n : List UInt8} {r : List (List UInt8)} (h : r.all mayN = true) : mayC n (numsI r) = decide (nm n = some r.length) := by
  rw [mayC_alt, numsI_len, show (numsI r).all inN = true from List.all_eq_true.2 fun x hx => decide_eq_true (numsI_in h x hx)]; rfl
end Go.Proofs.YtlceanlenekanaaDoor
