/- Layer 3: all members put, then taken one by one. Plain theorems. -/
import Derived.Test.YtncoeoccdimgoaaHeapA
namespace Go.Proofs.Ytncoeoccdimgoaa
open Go.RowKit
set_option linter.unusedVariables false
/-- The first i numbers are members. -/
def memM (V : Nat → Int) (i : Nat) : HM := fun j => if j < i then some (V j) else none
def updv (V : Nat → Int) (k : Nat) (x : Int) : Nat → Int := fun j => if j = k then x else V j
theorem memM_zero (V : Nat → Int) : memM V 0 = fun _ => none := funext fun j => by simp [memM]
theorem memM_put (V : Nat → Int) (i : Nat) (x : Int) : (memM V i).put i x = memM (updv V i x) (i + 1) := funext fun j => by
  unfold HM.put memM updv
  by_cases e : j = i
  · subst e; simp
  · rw [if_neg e, if_neg e]
    by_cases h : j < i
    · rw [if_pos h, if_pos (by omega)]
    · rw [if_neg h, if_neg (by omega)]
theorem memM_old (V : Nat → Int) {n k : Nat} (h : k < n) (x : Int) : (memM V n).put k x = memM (updv V k x) n := funext fun j => by
  unfold HM.put memM updv
  by_cases e : j = k
  · subst e; simp [h]
  · rw [if_neg e, if_neg e]
theorem memM_like {V V' : Nat → Int} {n : Nat} (h : ∀ j, j < n → V j = V' j) : memM V n = memM V' n := funext fun j => by
  unfold memM
  by_cases e : j < n
  · rw [if_pos e, if_pos e, h j e]
  · rw [if_neg e, if_neg e]
theorem memM_some {V : Nat → Int} {n j : Nat} {y : Int} : memM V n j = some y ↔ j < n ∧ y = V j := by
  unfold memM
  by_cases e : j < n
  · rw [if_pos e]
    exact ⟨fun h => ⟨e, by injection h with h; exact h.symm⟩, fun h => by rw [h.2]⟩
  · rw [if_neg e]; exact ⟨(fun h => by cases h), fun h => absurd h.1 e⟩
theorem memM_cnt (V : Nat → Int) : ∀ (m n : Nat), n ≤ m → (memM V n).cnt m = n
  | 0, n, h => by have : n = 0 := by omega
                  subst this; rfl
  | m + 1, n, h => by
    simp only [HM.cnt]
    by_cases e : n = m + 1
    · subst e
      have h1 := memM_cnt V m m (Nat.le_refl _)
      have h2 : (memM V (m + 1)).cnt m = (memM V m).cnt m := HM.cnt_like m fun i hi => by simp [memM, hi, show i < m + 1 by omega]
      rw [h2, h1]; simp [memM]
    · rw [memM_cnt V m n (by omega)]
      simp [memM, show ¬ m < n by omega]
theorem HM.cnt_all {M : HM} {n : Nat} (h : ∀ j, M j = none) : M.cnt n = 0 := by
  rw [HM.cnt_like (N := fun _ => none) n fun i _ => by rw [h i], HM.cnt_none]
/-- What is left behind m of n that were taken, the last of which is told. -/
structure HLeft (V : Nat → Int) (n m : Nat) (was : Int) (M : HM) : Prop where
  sub : ∀ j y, M j = some y → j < n ∧ y = V j
  cnt : M.cnt 200 + m = n
  was : was = -1 ∨ ∃ l : Nat, was = (l : Int) ∧ l < n ∧ M l = none ∧ ∀ j y, M j = some y → ¬ hlt (j, y) (l, V l)
theorem HLeft.begin (V : Nat → Int) {n : Nat} (hn : n ≤ 200) : HLeft V n 0 (-1) (memM V n) :=
  ⟨fun j y h => memM_some.1 h, by rw [memM_cnt V 200 n hn]; rfl, Or.inl rfl⟩
theorem HLeft.step {V : Nat → Int} {n m : Nat} {was : Int} {M : HM} (h : HLeft V n m was M) (hn : n ≤ 200) (hm : m < n) :
    ∃ i : Nat, i < n ∧ HTakeP M (i : Int) (V i) 0 (M.del i) ∧ HLeft V n (m + 1) (i : Int) (M.del i) ∧ (was = -1 ∨ ∃ l : Nat, was = (l : Int) ∧ l < n ∧ hlt (l, V l) (i, V i)) := by
  obtain ⟨a, x, f, hf⟩ := fstP_ex M 200 fun j hj => by
    cases hM : M j with
    | none => rfl
    | some y => have := (h.sub j y hM).1; omega
  have hf' := hf
  rcases hf with ⟨h1, _⟩ | ⟨i, h1, h2, rfl, rfl⟩
  · have := HM.cnt_all (n := 200) h1
    have := h.cnt; omega
  · obtain ⟨hi, rfl⟩ := h.sub i x h1
    refine ⟨i, hi, ⟨hf', Or.inr ⟨rfl, by rw [Int.toNat_natCast]⟩⟩, ⟨fun j y hj => h.sub j y (HM.del_some.1 hj).2, ?_, Or.inr ⟨i, rfl, hi, by simp [HM.del], fun j y hj => h2 j y (HM.del_some.1 hj).2⟩⟩, ?_⟩
    · have h3 := HM.cnt_del (M := M) (id := i) (by rw [h1]; rfl) 200
      rw [if_pos (by omega)] at h3
      have := h.cnt; omega
    · rcases h.was with hw | ⟨l, hw, hl, hno, hle⟩
      · exact Or.inl hw
      · refine Or.inr ⟨l, hw, hl, ?_⟩
        have h3 := hle i _ h1
        by_cases e : hlt (l, V l) (i, V i)
        · exact e
        · have h4 := hlt_eq e h3
          injection h4 with h4 _
          rw [h4, h1] at hno; cases hno
theorem HLeft.done {V : Nat → Int} {n : Nat} {was : Int} {M : HM} (h : HLeft V n n was M) (hn : n ≤ 200) : HTakeP M 0 0 5 M ∧ M.cnt 200 = 0 := by
  have hc : M.cnt 200 = 0 := by have := h.cnt; omega
  refine ⟨⟨Or.inl ⟨fun j => ?_, rfl, rfl, rfl⟩, Or.inl ⟨rfl, rfl⟩⟩, hc⟩
  cases hM : M j with
  | none => rfl
  | some y =>
    by_cases e : j < 200
    · have := HM.cnt_zero 200 hc j e
      rw [hM] at this; cases this
    · have := (h.sub j y hM).1; omega
end Go.Proofs.Ytncoeoccdimgoaa
