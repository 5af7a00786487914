/- Layer 7: handles in a row; what is given back, and dropped, is free. -/
import Derived.Test.YtceoflpoefehoaaPool4
namespace Go.Proofs.Ytceoflpoefehoaa
open Go.RowKit
set_option linter.unusedVariables false
set_option maxRecDepth 100000
set_option maxHeartbeats 1000000
def hs : List (Int × Int) → List Value
  | [] => []
  | a :: l => .int .i64 a.1 :: .int .u64 a.2 :: hs l
theorem hs_len : ∀ l, (hs l).length = l.length * 2
  | [] => rfl
  | a :: l => by simp only [hs, List.length_cons, hs_len l]; omega
theorem hs_app : ∀ l m, hs (l ++ m) = hs l ++ hs m
  | [], m => rfl
  | a :: l, m => by simp only [List.cons_append, hs, hs_app l m]
theorem hs_at : ∀ (l : List (Int × Int)) (i : Nat) (a : Int × Int), l[i]? = some a → (hs l)[i * 2]? = some (.int .i64 a.1) ∧ (hs l)[i * 2 + 1]? = some (.int .u64 a.2)
  | [], i, a, h => by simp at h
  | b :: l, 0, a, h => by
    simp at h
    subst h
    exact ⟨rfl, rfl⟩
  | b :: l, i + 1, a, h => by
    have h2 := hs_at l i a (by simpa using h)
    refine ⟨?_, ?_⟩
    · rw [show (i + 1) * 2 = i * 2 + 1 + 1 by omega]; simpa [hs] using h2.1
    · rw [show (i + 1) * 2 + 1 = i * 2 + 1 + 1 + 1 by omega]; simpa [hs] using h2.2
theorem flatC_zero {n : Nat} {Z C : Nat → Int} (h : mayC n Z C) : ∀ k, 1 ≤ k → k ≤ n → (flatC Z C k).getD 0 0 = (Z 0).toNat ∧ 0 < (flatC Z C k).length
  | 0, h1, _ => absurd h1 (by omega)
  | k + 1, _, h2 => by
    have hc := h.2 k (by omega)
    unfold okC at hc
    by_cases e : k = 0
    · subst e
      have : 0 < (C 0).toNat := by omega
      obtain ⟨q, hq⟩ : ∃ q, (C 0).toNat = q + 1 := ⟨(C 0).toNat - 1, by omega⟩
      simp [flatC, hq, List.replicate_succ]
    · obtain ⟨h3, h4⟩ := flatC_zero h k (by omega) (by omega)
      refine ⟨?_, ?_⟩
      · rw [← h3]; simp [flatC, List.getD, List.getElem?_append_left h4]
      · simp [flatC]; omega
theorem flatC_one {n : Nat} {Z C : Nat → Int} (h : ∀ k, k < n → okC Z C k) : ∀ k, k ≤ n → ∀ x ∈ flatC Z C k, 1 ≤ x
  | 0, _, x, hx => by simp [flatC] at hx
  | k + 1, hk, x, hx => by
    rcases List.mem_append.1 hx with hx | hx
    · exact flatC_one h k (by omega) x hx
    · have e := List.eq_of_mem_replicate hx
      have h1 := h k (by omega)
      unfold okC at h1
      have : 0 < Z k := by
        by_cases e : k = 0
        · subst e; have : prevZ Z 0 = 0 := rfl; omega
        · have a := Z_lt h k (by omega) 0 (by omega)
          have b : prevZ Z 0 < Z 0 := (h 0 (by omega)).1
          have : prevZ Z 0 = 0 := rfl
          omega
      omega
/-- A task's buffer of which k of r references were dropped. -/
def db (g : Int) (r : Nat) (bs : List Int) (k : Nat) : Buf := if k < r then ⟨g, 1, (r : Int) - (k : Int), bs⟩ else ⟨g + 1, 0, 0, bs⟩
theorem db_drop {g : Int} {r k : Nat} {bs : List Int} (h : k < r) : DropB (db g r bs k) 0 (db g r bs (k + 1)) := by
  unfold db
  rw [if_pos h]
  by_cases e : k + 1 < r
  · rw [if_pos e]
    refine Or.inr (Or.inl ⟨rfl, by dsimp only; omega, rfl, ?_⟩)
    congr 1
    show (r : Int) - ((k + 1 : Nat) : Int) = (r : Int) - (k : Int) - 1
    omega
  · rw [if_neg e]
    refine Or.inr (Or.inr ⟨rfl, by dsimp only; omega, rfl, ?_⟩)
    congr 1
theorem db_zero {g : Int} {r : Nat} {bs : List Int} (h : 1 ≤ r) : db g r bs 0 = ⟨g, 1, (r : Int), bs⟩ := by
  unfold db; rw [if_pos (by omega)]; simp
theorem db_live {g : Int} {r k : Nat} {bs : List Int} (h : k < r) : (db g r bs k).owner ≠ 0 ∧ (db g r bs k).gen = g := by
  unfold db; rw [if_pos h]; exact ⟨by dsimp only; omega, rfl⟩
theorem db_ok {G g : Int} {r k : Nat} {bs : List Int} (h1 : 0 ≤ g ∧ g ≤ G) (h2 : r ≤ 100) (h3 : bs.length ≤ 65536) (hk : k ≤ r) : (db g r bs k).ok (G + 1) := by
  unfold db
  split
  · exact ⟨by dsimp only; omega, by dsimp only; omega, by dsimp only; omega, h3⟩
  · exact ⟨by dsimp only; omega, by dsimp only; omega, by dsimp only; omega, h3⟩
section
variable {n : Nat} {st : Nat → Buf} {x g : Int} {all : List (Int × Int)} {zs : List Nat} {G : Int}
/-- A handle of nobody's is passed over. -/
theorem Good.pass (h : Good n st ((x, g) :: all) zs G) (hl : ¬ live n st x g) : Good n st all zs G :=
  ⟨h.ok, fun j hj ho => by
    obtain ⟨h1, h2⟩ := h.held j hj ho
    refine ⟨h1, ?_⟩
    rcases List.mem_cons.1 h2 with e | e
    · injection e with e1 e2
      exact absurd ⟨⟨by omega, by omega⟩, by rw [← e1]; simpa using ho, by rw [← e1]; simpa using e2⟩ hl
    · exact e, h.len⟩
theorem db_pok (h : Good n st all zs G) {j : Nat} (hj : j < n) {r k : Nat} (hr : (st j).refs = (r : Int)) (hk : k ≤ r) (hG : G + 1 < 9223372036854775807) : POK n (updB st j (db (st j).gen r (st j).bs k)) (G + 1) := by
  refine ⟨h.ok.n1, h.ok.n2, hG, fun i hi => ?_⟩
  by_cases e : i = j
  · rw [e, updB_self]
    obtain ⟨a1, a2, a3, a4⟩ := h.ok.b j hj
    exact db_ok a1 (by omega) a4 hk
  · rw [updB_ne _ _ e]
    obtain ⟨⟨a1, a2⟩, a3⟩ := h.ok.b i hi
    exact ⟨⟨a1, by omega⟩, a3⟩
/-- All of its references were dropped. -/
theorem Good.freed {j : Nat} (h : Good n st (((j : Int), g) :: all) zs G) (hj : j < n) {r : Nat} (hr : (st j).refs = (r : Int)) (hG : G + 1 < 9223372036854775807) : Good n (updB st j (db (st j).gen r (st j).bs r)) all zs (G + 1) :=
  ⟨db_pok h hj hr (Nat.le_refl _) hG, fun i hi ho => by
    by_cases e : i = j
    · rw [e, updB_self] at ho
      unfold db at ho
      rw [if_neg (by omega)] at ho
      exact absurd rfl ho
    · rw [updB_ne _ _ e] at ho ⊢
      obtain ⟨h1, h2⟩ := h.held i hi ho
      refine ⟨h1, ?_⟩
      rcases List.mem_cons.1 h2 with e2 | e2
      · injection e2 with e1 e2
        omega
      · exact e2, fun i hi => by
    by_cases e : i = j
    · subst e
      rw [updB_self]
      unfold db
      rw [if_neg (by omega)]
      exact h.len i hi
    · rw [updB_ne _ _ e]; exact h.len i hi⟩
theorem Good.all_free (h : Good n st [] zs G) : ∀ j, j < n → (st j).owner = 0 := fun j hj => by
  apply Classical.byContradiction
  intro ho
  have := (h.held j hj ho).2
  simp at this
theorem frees_all {st : Nat → Buf} : ∀ n, (∀ j, j < n → (st j).owner = 0) → frees st n = n
  | 0, _ => rfl
  | n + 1, h => by
    show frees st n + (if (st n).owner = 0 then 1 else 0) = n + 1
    rw [frees_all n fun j hj => h j (by omega), if_pos (h n (by omega))]
end
end Go.Proofs.Ytceoflpoefehoaa
