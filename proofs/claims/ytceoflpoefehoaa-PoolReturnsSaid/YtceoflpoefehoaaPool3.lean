/- Layer 7: who is great enough; a pool of which some were got, one behind the other. -/
import Derived.Test.YtceoflpoefehoaaPool1
namespace Go.Proofs.Ytceoflpoefehoaa
open Go.RowKit
set_option linter.unusedVariables false
set_option maxRecDepth 100000
set_option maxHeartbeats 800000
/-- How many of the first k classes' buffers are great enough. -/
def nge (Z C : Nat → Int) (z : Int) : Nat → Nat
  | 0 => 0
  | k + 1 => nge Z C z k + if z ≤ Z k then (C k).toNat else 0
theorem Z_lt {n : Nat} {Z C : Nat → Int} (h : ∀ k, k < n → okC Z C k) : ∀ k, k < n → ∀ i, i < k → Z i < Z k
  | 0, _, i, hi => absurd hi (by omega)
  | k + 1, hk, i, hi => by
    have h1 : Z k < Z (k + 1) := (h (k + 1) hk).1
    by_cases e : i = k
    · rw [e]; exact h1
    · have := Z_lt h k (by omega) i (by omega)
      omega
theorem flatC_len1 (Z C : Nat → Int) (k : Nat) : (flatC Z C (k + 1)).length = (flatC Z C k).length + (C k).toNat := by simp [flatC]
theorem ge_flat {n : Nat} {Z C : Nat → Int} (h : ∀ k, k < n → okC Z C k) (z : Int) : ∀ k, k ≤ n →
    nge Z C z k ≤ (flatC Z C k).length ∧ (∀ j, j < (flatC Z C k).length → (z ≤ ((flatC Z C k).getD j 0 : Nat) ↔ (flatC Z C k).length - nge Z C z k ≤ j)) ∧ (0 < nge Z C z k → ∃ i, i < k ∧ z ≤ Z i)
  | 0, _ => ⟨by simp [nge], fun j hj => by simp [flatC] at hj, fun h => by simp [nge] at h⟩
  | k + 1, hk => by
    obtain ⟨h1, h2, h3⟩ := ge_flat h z k (by omega)
    obtain ⟨o1, o2, o3, o4⟩ := h k (by omega)
    have hlen := flatC_len1 Z C k
    have z0 : 0 ≤ Z k := by
      by_cases e : k = 0
      · subst e; have : prevZ Z 0 = 0 := rfl; omega
      · have a := Z_lt h k (by omega) 0 (by omega)
        have b : prevZ Z 0 < Z 0 := (h 0 (by omega)).1
        have : prevZ Z 0 = 0 := rfl
        omega
    have old : ∀ j, j < (flatC Z C k).length → (flatC Z C (k + 1)).getD j 0 = (flatC Z C k).getD j 0 := fun j hj => by
      simp [flatC, List.getD, List.getElem?_append_left hj]
    have new : ∀ j, ¬ j < (flatC Z C k).length → j < (flatC Z C (k + 1)).length → (flatC Z C (k + 1)).getD j 0 = (Z k).toNat := fun j hj hj2 => by
      have : j - (flatC Z C k).length < (C k).toNat := by omega
      simp [flatC, List.getD, List.getElem?_append_right (Nat.le_of_not_lt hj), this]
    by_cases hz : z ≤ Z k
    · have hn : nge Z C z (k + 1) = nge Z C z k + (C k).toNat := by simp [nge, hz]
      refine ⟨by omega, fun j hj => ?_, fun _ => ⟨k, by omega, hz⟩⟩
      rw [hn, hlen]
      by_cases hlt : j < (flatC Z C k).length
      · rw [old j hlt, h2 j hlt]; omega
      · rw [new j hlt hj]; omega
    · have hn : nge Z C z (k + 1) = nge Z C z k := by simp [nge, hz]
      have h0 : nge Z C z k = 0 := by
        rcases Nat.eq_zero_or_pos (nge Z C z k) with e | e
        · exact e
        · obtain ⟨i, hi, hzi⟩ := h3 e
          have := Z_lt h k (by omega) i hi
          omega
      refine ⟨by omega, fun j hj => ?_, fun hp => by omega⟩
      rw [hn, h0]
      by_cases hlt : j < (flatC Z C k).length
      · rw [old j hlt, h2 j hlt, h0]; omega
      · rw [new j hlt hj]; omega
/-- The first one that is great enough; -1: none. -/
def fge (Z C : Nat → Int) (z : Int) (k : Nat) : Int := if nge Z C z k = 0 then -1 else ((flatC Z C k).length : Int) - (nge Z C z k : Int)
def gotten (zs : List Nat) (f i : Nat) : Nat → Buf := fun j => if f ≤ j ∧ j < f + i then got (fresh zs j) else fresh zs j
theorem gotten_zero (zs : List Nat) (f : Nat) : gotten zs f 0 = fresh zs := by
  funext j; unfold gotten; rw [if_neg (by omega)]
theorem gotten_next (zs : List Nat) (f i : Nat) : updB (gotten zs f i) (f + i) (got (gotten zs f i (f + i))) = gotten zs f (i + 1) := by
  funext j
  have e1 : gotten zs f i (f + i) = fresh zs (f + i) := by unfold gotten; rw [if_neg (by omega)]
  rw [e1]
  by_cases e : j = f + i
  · rw [e, updB_self]; unfold gotten; rw [if_pos (by omega)]
  · rw [updB_ne _ _ e]
    unfold gotten
    by_cases h : f ≤ j ∧ j < f + i
    · rw [if_pos h, if_pos (by omega)]
    · rw [if_neg h, if_neg (by omega)]
theorem gotten_len (zs : List Nat) (f i j : Nat) : (gotten zs f i j).bs.length = zs.getD j 0 := by
  unfold gotten; split <;> simp [got, fresh]
theorem gotten_gen (zs : List Nat) (f i j : Nat) : (gotten zs f i j).gen = 1 := by
  unfold gotten; split <;> simp [got, fresh]
theorem gotten_owner (zs : List Nat) (f i j : Nat) : (gotten zs f i j).owner = if f ≤ j ∧ j < f + i then 1 else 0 := by
  unfold gotten; split <;> simp [got, fresh]
theorem gotten_ok {zs : List Nat} (ok : POK zs.length (fresh zs) 1) (f i : Nat) : POK zs.length (gotten zs f i) 1 :=
  ⟨ok.n1, ok.n2, ok.g, fun j hj => by
    have h := ok.b j hj
    have hl : (fresh zs j).bs.length ≤ 65536 := h.2.2.2
    unfold gotten
    split
    · exact ⟨h.1, by show (0 : Int) ≤ 1 ∧ (1 : Int) ≤ 3; omega, by show (0 : Int) ≤ 1 ∧ (1 : Int) ≤ 100; omega, by simpa [got] using hl⟩
    · exact h⟩
theorem gotten_frees (zs : List Nat) (f i : Nat) : ∀ m, frees (gotten zs f i) m = if m ≤ f then m else if m ≤ f + i then f else m - i
  | 0 => by simp [frees]
  | m + 1 => by
    have ih := gotten_frees zs f i m
    have step : frees (gotten zs f i) (m + 1) = frees (gotten zs f i) m + (if f ≤ m ∧ m < f + i then 0 else 1) := by
      show frees (gotten zs f i) m + (if (gotten zs f i m).owner = 0 then 1 else 0) = _
      rw [gotten_owner]
      by_cases h : f ≤ m ∧ m < f + i
      · simp [h]
      · simp [h]
    rw [step, ih]
    repeat' split
    all_goals omega
section
variable {n : Nat} {Z C : Nat → Int} {z : Int}
theorem gets_i (hm : mayC n Z C) (h1 : 1 ≤ z) {f i : Nat} (hf : f = (flatC Z C n).length - nge Z C z n) (hi : i < nge Z C z n) :
    GetP (flatC Z C n).length (gotten (flatC Z C n) f i) z ((f : Int) + (i : Int)) 1 0 (gotten (flatC Z C n) f (i + 1)) := by
  obtain ⟨g1, g2, g3⟩ := ge_flat hm.2 z n (Nat.le_refl _)
  refine Or.inr (Or.inr ⟨⟨h1, ?_⟩, f + i, by omega, fun j hj hfit => ?_, ⟨?_, ?_⟩, by omega, (gotten_gen _ _ _ _).symm, rfl, (gotten_next _ _ _).symm⟩)
  · rw [gotten_len]; exact (g2 _ (by omega)).2 (by omega)
  · obtain ⟨q1, q2⟩ := hfit
    rw [gotten_owner] at q1
    rw [gotten_len] at q2
    by_cases h : f ≤ j ∧ j < f + i
    · rw [if_pos h] at q1; omega
    · have := (g2 j (by omega)).1 q2
      omega
  · rw [gotten_owner, if_neg (by omega)]
  · rw [gotten_len]; exact (g2 _ (by omega)).2 (by omega)
theorem gets_end (hm : mayC n Z C) (h1 : 1 ≤ z) {f : Nat} (hf : f = (flatC Z C n).length - nge Z C z n) (hi : 0 < nge Z C z n) :
    GetP (flatC Z C n).length (gotten (flatC Z C n) f (nge Z C z n)) z 0 0 5 (gotten (flatC Z C n) f (nge Z C z n)) := by
  obtain ⟨g1, g2, g3⟩ := ge_flat hm.2 z n (Nat.le_refl _)
  refine Or.inr (Or.inl ⟨⟨h1, ?_⟩, fun j hj hfit => ?_, rfl, rfl, rfl, rfl⟩)
  · rw [gotten_len]; exact (g2 _ (by omega)).2 (by omega)
  · obtain ⟨q1, q2⟩ := hfit
    rw [gotten_owner] at q1
    rw [gotten_len] at q2
    by_cases h : f ≤ j ∧ j < f + nge Z C z n
    · rw [if_pos h] at q1; omega
    · have := (g2 j (by omega)).1 q2
      omega
theorem gets_no (hm : mayC n Z C) (h : z < 1 ∨ nge Z C z n = 0) : GetP (flatC Z C n).length (fresh (flatC Z C n)) z 0 0 1 (fresh (flatC Z C n)) := by
  obtain ⟨g1, g2, g3⟩ := ge_flat hm.2 z n (Nat.le_refl _)
  have hp := flatC_pos hm
  refine Or.inl ⟨fun hh => ?_, rfl, rfl, rfl, rfl⟩
  rcases h with h | h
  · omega
  · have hl : (fresh (flatC Z C n) ((flatC Z C n).length - 1)).bs.length = (flatC Z C n).getD ((flatC Z C n).length - 1) 0 := by simp [fresh]
    rw [hl] at hh
    have := (g2 _ (by omega)).1 hh.2
    omega
end
end Go.Proofs.Ytceoflpoefehoaa
