/- Layer 21: the command of a line. -/
import Derived.Test.YtlceanlenekanaaDoorCalL
import Derived.Deep.RegionLaw
namespace Go.Proofs.YtlceanlenekanaaDoor
open Go.RowKit
set_option linter.unusedVariables false
set_option maxRecDepth 100000
set_option maxHeartbeats 4000000
theorem YtlceanlenekanaaDooriI : (Tryd.prog.info? 3).map (fun i => (i.zero, i.size, i.bytes)) = some (some (.int .i64 0), 1, 8) := by kernel_rfl
/-- What a line's command is told as. -/
def pN : Option (List UInt8 × List Nat) → List UInt8
  | none => []
  | some p => p.1
def pX : Option (List UInt8 × List Nat) → List Int
  | none => []
  | some p => p.2.map Int.ofNat
def pC : Option (List UInt8 × List Nat) → Int
  | none => 9
  | some _ => 0
theorem St.rdc {w0 w : World} {S0 : Nat → Prop} {L : List Res} {e : TypeId} {B : Option Addr} {n c : Nat} {cs : List Value} (h : St w0 S0 w L) (i : Nat) (hi : L[i]? = some (LisR e 1 (.slice B n c) n cs)) : RdC w B cs ∧ n ≤ c ∧ c ≤ maxLen ∧ cs.length = n := by
  have hl := h.lis i hi
  obtain ⟨A, cap, ev, h1, h2, h3, h4⟩ := h.lis_cells i hi
  injection ev with e1 e2 e3
  subst e1; subst e3
  rw [Nat.mul_one] at h3
  refine ⟨fun j u hu => ?_, h1, h2, h3⟩
  rcases h4 with rfl | ⟨g, off, rfl, hc⟩
  · rw [List.length_eq_zero_iff.1 h3] at hu; cases hu
  · exact ⟨g, off, rfl, hl.lt rfl, hc j u hu⟩
theorem RdC.strs {w : World} {B : Option Addr} {us : List (List UInt8)} (h : RdC w B (stVs us)) : RdT w B us := fun i u hu => by
  obtain ⟨g, off, e, h1, h2⟩ := h i (stV u) (by unfold stVs; rw [List.getElem?_map, hu]; rfl)
  exact ⟨g, off, e, h1, h2⟩
theorem RdC.ints {w : World} {B : Option Addr} {xs : List Int} (h : RdC w B (ivI xs)) : RdI w B xs := fun i x hx => by
  obtain ⟨g, off, e, h1, h2⟩ := h i (.int .i64 x) (by unfold ivI; rw [List.getElem?_map, hx]; rfl)
  exact ⟨g, off, e, h1, h2⟩
theorem RdC.anys {w : World} {B : Option Addr} {us : List (List UInt8)} (h : RdC w B (anyVs us)) {i : Nat} {u : List UInt8} (hu : us[i]? = some u) : ∃ g off, B = some ⟨g, off, none⟩ ∧ g < w.heap.size ∧ w.cell? ⟨g, off + i, none⟩ = some (anyB u) := h i _ (anyVs_get hu)
theorem RdC.on {w w' : World} {B : Option Addr} {cs : List Value} (h : RdC w B cs) (hb : Below w.heap.size w w') : RdC w' B cs := fun i u hu => by
  obtain ⟨g, off, e, h1, h2⟩ := h i u hu
  refine ⟨g, off, e, Nat.lt_of_lt_of_le h1 hb.size, ?_⟩
  rw [← h2]
  exact World.cell?_of_block (w := w) (hb.block g h1)
theorem St.only {w0 w : World} {S0 : Nat → Prop} {L : List Res} {R : Res} (h : St w0 S0 w L) (i : Nat) (hi : L[i]? = some R) : St w0 S0 w [R] :=
  h.pick [i] [R] (by simp) (fun j hj => by rw [List.mem_singleton.1 hj]; exact (List.getElem?_eq_some_iff.1 hi).1) rfl fun k j hk => by
    cases k with
    | zero => simp at hk; subst hk; rw [hi]; rfl
    | succ k => simp at hk
theorem ivI_snoc (xs : List Int) (x : Int) : ivI (xs ++ [x]) = ivI xs ++ [.int .i64 x] := by unfold ivI; rw [List.map_append]; rfl
theorem parseB_is {us : List (List UInt8)} (h : (parseB us).isSome = true) : ∃ n r, us = n :: r ∧ r.all mayN = true ∧ nm n = some r.length ∧ parseB us = some (n, r.map valB) := by
  match us, h with
  | n :: r, h =>
    by_cases hc : r.all mayN = true ∧ nm n = some r.length
    · exact ⟨n, r, rfl, hc.1, hc.2, by rw [parseB_cons, if_pos hc]⟩
    · rw [parseB_cons, if_neg hc] at h; cases h
theorem words_len (s : ByteArray) : (wordsB s.data.toList).length ≤ s.size := by
  have := wcount s (pos := s.size) (Nat.le_refl _)
  rw [tk_size] at this
  rw [wfin]
  by_cases he : (wfold s.data.toList).2 = []
  · rw [if_pos he]; omega
  · rw [if_neg he]
    have := List.length_pos_iff.2 he
    rw [List.length_append]
    show _ + 1 ≤ _
    omega
end Go.Proofs.YtlceanlenekanaaDoor
