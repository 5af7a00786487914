/- Layer 16: a task more makes no answer time less; less cost makes none greater. -/
import Derived.Test.YthbghenikooagaaRtaI
namespace Go.Proofs.Ythbghenikooagaa
open Go.RowKit
set_option linter.unusedVariables false
set_option maxRecDepth 100000
set_option maxHeartbeats 1000000
/-- What asks for no more than there is has a fixed number. -/
theorem pre_fix (c : Nat) (l : List Tk) : ∀ R, Fx c l R ≤ R → ∃ t, t ≤ R ∧ Fx c l t = t
  | R, h => by
    by_cases e : Fx c l R = R
    · exact ⟨R, Nat.le_refl _, e⟩
    · have hlt : Fx c l R < R := by omega
      obtain ⟨t, h1, h2⟩ := pre_fix c l (Fx c l R) (Fx_mono c l h)
      exact ⟨t, by omega, h2⟩
  termination_by R => R
/-- Who asks for less, and may have as much, has an answer time that is no greater. -/
theorem lfp_less {c d c' d' : Nat} {l l' : List Tk} {r : Nat} (h : lfp c' d' l' = some r) (hd : d' ≤ d) (hF : ∀ s, Fx c l s ≤ Fx c' l' s) : ∃ t, lfp c d l = some t ∧ t ≤ r := by
  obtain ⟨h1, h2, h3⟩ := lfp_some.1 h
  obtain ⟨t, ht, he⟩ := pre_fix c l r (by have := hF r; omega)
  cases ho : lfp c d l with
  | none => exact absurd he (lfp_none.1 ho t (by omega))
  | some v => exact ⟨v, rfl, Nat.le_trans (lfp_le ho he) ht⟩
theorem aht_like {T T' : Nat → Wk} {i : Nat} (hi : T i = T' i) : ∀ k, (∀ j, j < k → T j = T' j) → aht T i k = aht T' i k
  | 0, _ => rfl
  | k + 1, h => by simp only [aht]; rw [aht_like hi k fun j hj => h j (by omega), h k (by omega), hi]
theorem snoc_old (T : Nat → Wk) {n j : Nat} (x : Wk) (h : j < n) : snoc T n x j = T j := by unfold snoc; rw [if_neg (by omega)]
theorem snoc_new (T : Nat → Wk) (n : Nat) (x : Wk) : snoc T n x n = x := by unfold snoc; rw [if_pos rfl]
theorem snoc_ok {T : Nat → Wk} {n : Nat} {x : Wk} (h : TOK (n + 1) (snoc T n x)) : TOK n T ∧ x.ok :=
  ⟨⟨by have := h.1; omega, fun j hj => by have := h.2 j (by omega); rwa [snoc_old T x hj] at this⟩, by have := h.2 n (by omega); rwa [snoc_new] at this⟩
theorem snoc_tok {T : Nat → Wk} {n : Nat} {x : Wk} (h : TOK n T) (hn : n + 1 ≤ 32) (hx : x.ok) : TOK (n + 1) (snoc T n x) :=
  ⟨hn, fun j hj => by
    by_cases e : j = n
    · rw [e, snoc_new]; exact hx
    · rw [snoc_old T x (by omega)]; exact h.2 j (by omega)⟩
theorem aht_snoc {T : Nat → Wk} {n i : Nat} (x : Wk) (hi : i < n) : aht (snoc T n x) i (n + 1) = aht T i n ++ if x.prio ≤ (T i).prio then [wkt x] else [] := by
  simp only [aht]
  rw [aht_like (T' := T) (snoc_old T x hi) n fun j hj => snoc_old T x hj, snoc_new, snoc_old T x hi]
  congr 1
  by_cases h : x.prio ≤ (T i).prio
  · rw [if_pos h, if_pos ⟨by omega, h⟩]
  · rw [if_neg h, if_neg fun hh => h hh.2]
theorem timeO_is {n : Nat} {T : Nat → Wk} {m : Nat} {S : Nat → Ld} {i : Nat} (h : (timeO n T m S i).isSome = true) : i < n ∧ TOK n T ∧ SOK m S := by
  unfold timeO at h
  by_cases hc : (0 ≤ (i : Int) ∧ (i : Int) < (n : Int)) ∧ TOK n T ∧ SOK m S
  · exact ⟨by omega, hc.2⟩
  · rw [if_neg hc] at h; cases h
theorem timeO_eq {n : Nat} {T : Nat → Wk} {m : Nat} {S : Nat → Ld} {i : Nat} (hi : i < n) (hT : TOK n T) (hS : SOK m S) : timeO n T m S i = lfp (T i).cost.toNat (T i).dead.toNat (whoL T S n m i) := by
  unfold timeO; rw [if_pos ⟨⟨by omega, by omega⟩, hT, hS⟩, Int.toNat_natCast]
/-- Whoever is let in leaves all the others done in time. -/
theorem all_less {n m : Nat} {T : Nat → Wk} {S : Nat → Ld} {x : Wk} (h : allO (n + 1) (snoc T n x) m S) : allO n T m S := by
  intro i hi
  have h1 := h i (by omega)
  obtain ⟨-, hT', hS⟩ := timeO_is h1
  obtain ⟨hT, hx⟩ := snoc_ok hT'
  rw [timeO_eq (by omega) hT' hS] at h1
  rw [timeO_eq hi hT hS]
  obtain ⟨r, hr⟩ := Option.isSome_iff_exists.1 h1
  rw [snoc_old T x hi] at hr
  obtain ⟨t, ht, -⟩ := lfp_less (c := (T i).cost.toNat) (d := (T i).dead.toNat) (l := whoL T S n m i) hr (Nat.le_refl _) (fun s => by
    unfold Fx whoL
    rw [aht_snoc x hi, ← List.append_assoc, tkn_app (ldl S m ++ aht T i n)]
    omega)
  rw [ht]; rfl
theorem tkn_wk {x y : Wk} (h : y.cost.toNat ≤ x.cost.toNat) (hp : y.per = x.per) (s : Nat) : tkn [wkt y] s ≤ tkn [wkt x] s := by
  simp only [tkn, wkt, hp]
  have := Nat.mul_le_mul_left (upN s x.per.toNat) h
  omega
/-- With less cost it is let in, too. -/
theorem all_cost {n m : Nat} {T : Nat → Wk} {S : Nat → Ld} {x y : Wk} (h : allO (n + 1) (snoc T n x) m S) (hc : y.cost + 1 = x.cost) (h2 : 2 ≤ x.cost) (hp : y.prio = x.prio) (hr : y.per = x.per) (hd : y.dead = x.dead) : allO (n + 1) (snoc T n y) m S := by
  intro i hi
  obtain ⟨-, hT', hS⟩ := timeO_is (h n (by omega))
  obtain ⟨hT, hx⟩ := snoc_ok hT'
  have hy : y.ok := by
    obtain ⟨a1, a2, a3, a4, a5⟩ := hx
    exact ⟨by rw [hp]; exact a1, by omega, by rw [hd]; omega, by rw [hd, hr]; exact a4, by rw [hr]; exact a5⟩
  have hTy := snoc_tok hT (by have := hT'.1; omega) hy
  have h1 := h i hi
  rw [timeO_eq hi hT' hS] at h1
  rw [timeO_eq hi hTy hS]
  obtain ⟨r, hrr⟩ := Option.isSome_iff_exists.1 h1
  have hcc : y.cost.toNat ≤ x.cost.toNat := by omega
  by_cases e : i = n
  · subst e
    rw [snoc_new] at hrr
    rw [snoc_new]
    have ea : ∀ z : Wk, z.prio = x.prio → aht (snoc T i z) i (i + 1) = aht (snoc T i x) i (i + 1) := fun z hz => by
      simp only [aht]
      simp only [ne_eq, not_true, false_and, if_false, List.append_nil]
      have : ∀ k, k ≤ i → aht (snoc T i z) i k = aht (snoc T i x) i k := by
        intro k
        induction k with
        | zero => intro _; rfl
        | succ k ih =>
          intro hk
          simp only [aht]
          rw [ih (by omega), snoc_old T z (show k < i by omega), snoc_old T x (show k < i by omega), snoc_new, snoc_new, hz]
      exact this i (Nat.le_refl _)
    obtain ⟨t, ht, -⟩ := lfp_less (c := y.cost.toNat) (d := y.dead.toNat) (l := whoL (snoc T i y) S (i + 1) m i) hrr (by rw [hd]; exact Nat.le_refl _) (fun s => by
      unfold Fx whoL
      rw [ea y hp]
      omega)
    rw [ht]; rfl
  · have hi' : i < n := by omega
    rw [snoc_old T x hi'] at hrr
    rw [snoc_old T y hi']
    obtain ⟨t, ht, -⟩ := lfp_less (c := (T i).cost.toNat) (d := (T i).dead.toNat) (l := whoL (snoc T n y) S (n + 1) m i) hrr (Nat.le_refl _) (fun s => by
      unfold Fx whoL
      rw [aht_snoc x hi', aht_snoc y hi', ← List.append_assoc, ← List.append_assoc, tkn_app (ldl S m ++ aht T i n), tkn_app (ldl S m ++ aht T i n), hp]
      split
      · have := tkn_wk hcc hr s; omega
      · omega)
    rw [ht]; rfl
end Go.Proofs.Ythbghenikooagaa
