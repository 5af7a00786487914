/- Layer 16: answer times, as numbers. Plain theorems. -/
import Derived.Test.YtdemhhmceiaohaaTickM
namespace Go.Proofs.Ytdemhhmceiaohaa
open Go.RowKit
set_option linter.unusedVariables false
def upN (s p : Nat) : Nat := (s + p - 1) / p
theorem upN_cast {s p : Nat} (hp : 1 ≤ p) : tUp (s : Int) (p : Int) = (upN s p : Int) := by
  unfold tUp upN
  have e : (s : Int) + (p : Int) - 1 = ((s + p - 1 : Nat) : Int) := by omega
  rw [e]; norm_cast
theorem upN_mono {s t : Nat} (p : Nat) (h : s ≤ t) : upN s p ≤ upN t p := Nat.div_le_div_right (by omega)
theorem upN_enough {s p : Nat} (hp : 1 ≤ p) : s ≤ upN s p * p := by
  unfold upN
  have h1 := Nat.div_add_mod (s + p - 1) p
  have h2 := Nat.mod_lt (s + p - 1) (show 0 < p by omega)
  rw [Nat.mul_comm] at h1
  omega
theorem upN_le {s p : Nat} (hp : 1 ≤ p) : upN s p ≤ s / p + 1 := by
  unfold upN
  refine Nat.lt_succ_iff.1 ((Nat.div_lt_iff_lt_mul (by omega)).2 ?_)
  have h1 := Nat.div_add_mod s p
  have h2 := Nat.mod_lt s (show 0 < p by omega)
  have e : (s / p + 1 + 1) * p = p * (s / p) + p + p := by rw [Nat.add_mul, Nat.add_mul, Nat.one_mul, Nat.mul_comm]
  have e2 : (s / p + 1).succ * p = (s / p + 1 + 1) * p := rfl
  omega
theorem upN_mul_le {s p c : Nat} (hp : 1 ≤ p) (hc : c ≤ p) : upN s p * c ≤ s + c := by
  have h1 := Nat.mul_le_mul_right c (upN_le (s := s) hp)
  have h2 : s / p * c ≤ s := Nat.le_trans (Nat.mul_le_mul_left _ hc) (Nat.div_mul_le_self s p)
  rw [Nat.add_mul, Nat.one_mul] at h1
  omega
theorem upN_pos {s p : Nat} (hp : 1 ≤ p) (hs : 1 ≤ s) : 1 ≤ upN s p := by
  unfold upN
  exact (Nat.le_div_iff_mul_le (by omega)).2 (by omega)
theorem upN_one {s p : Nat} (hs : 1 ≤ s) (h : s ≤ p) : upN s p = 1 := by
  have h1 := upN_pos (s := s) (p := p) (by omega) hs
  have h2 : upN s p < 2 := by
    unfold upN
    exact (Nat.div_lt_iff_lt_mul (by omega)).2 (by omega)
  omega
/-- Who runs ahead: cost and period. -/
abbrev Tk := Nat × Nat
def tkn : List Tk → Nat → Nat
  | [], _ => 0
  | a :: l, s => upN s a.2 * a.1 + tkn l s
theorem tkn_app (l m : List Tk) (s : Nat) : tkn (l ++ m) s = tkn l s + tkn m s := by
  induction l with
  | nil => simp [tkn]
  | cons a l ih => simp only [List.cons_append, tkn, ih]; omega
theorem tkn_mono (l : List Tk) {s t : Nat} (h : s ≤ t) : tkn l s ≤ tkn l t := by
  induction l with
  | nil => exact Nat.le_refl _
  | cons a l ih => exact Nat.add_le_add (Nat.mul_le_mul_right _ (upN_mono _ h)) ih
def TkOK (l : List Tk) : Prop := ∀ a ∈ l, 1 ≤ a.1 ∧ a.1 ≤ a.2 ∧ a.2 ≤ 1073741824
theorem TkOK.head {a : Tk} {l : List Tk} (h : TkOK (a :: l)) : 1 ≤ a.1 ∧ a.1 ≤ a.2 ∧ a.2 ≤ 1073741824 := h a (by simp)
theorem TkOK.tail {a : Tk} {l : List Tk} (h : TkOK (a :: l)) : TkOK l := fun b hb => h b (by simp [hb])
theorem tkn_bound (l : List Tk) (h : TkOK l) (s : Nat) : tkn l s ≤ l.length * (s + 1073741824) := by
  induction l with
  | nil => simp [tkn]
  | cons a l ih =>
    have h1 := h.head
    have h2 := upN_mul_le (s := s) (show 1 ≤ a.2 by omega) h1.2.1
    have h3 := ih h.tail
    simp only [tkn, List.length_cons, Nat.add_mul, Nat.one_mul] at h3 ⊢
    omega
def Fx (c : Nat) (l : List Tk) (s : Nat) : Nat := c + tkn l s
theorem Fx_mono (c : Nat) (l : List Tk) {s t : Nat} (h : s ≤ t) : Fx c l s ≤ Fx c l t := Nat.add_le_add_left (tkn_mono l h) c
/-- The least fixed number up to d. -/
def lfp (c d : Nat) (l : List Tk) : Option Nat := (List.range (d + 1)).find? fun r => decide (Fx c l r = r)
theorem lfp_some {c d : Nat} {l : List Tk} {r : Nat} : lfp c d l = some r ↔ r ≤ d ∧ Fx c l r = r ∧ ∀ t, t < r → Fx c l t ≠ t := by
  unfold lfp
  rw [List.find?_range_eq_some]
  simp only [decide_eq_true_eq, List.mem_range, Bool.not_eq_true', decide_eq_false_iff_not]
  constructor
  · rintro ⟨h1, h2, h3⟩; exact ⟨by omega, h1, h3⟩
  · rintro ⟨h1, h2, h3⟩; exact ⟨h2, by omega, h3⟩
theorem lfp_none {c d : Nat} {l : List Tk} : lfp c d l = none ↔ ∀ t, t ≤ d → Fx c l t ≠ t := by
  unfold lfp
  rw [List.find?_range_eq_none]
  simp only [Bool.not_eq_true', decide_eq_false_iff_not]
  constructor
  · intro h t ht; exact h t (by omega)
  · intro h t ht; exact h t (by omega)
theorem lfp_of {c d : Nat} {l : List Tk} {r : Nat} (h1 : r ≤ d) (h2 : Fx c l r = r) (h3 : ∀ t, Fx c l t = t → r ≤ t) : lfp c d l = some r :=
  lfp_some.2 ⟨h1, h2, fun t ht e => by have := h3 t e; omega⟩
theorem lfp_le {c d : Nat} {l : List Tk} {r t : Nat} (h : lfp c d l = some r) (ht : Fx c l t = t) : r ≤ t := by
  rcases Nat.lt_or_ge t r with h1 | h1
  · exact absurd ht ((lfp_some.1 h).2.2 t h1)
  · exact h1
/-! ### A number that no answer time is less than -/
def M64 : Nat := 18446744073709551616
def prt : List Tk → Nat
  | [] => 0
  | a :: l => a.1 * M64 / a.2 + prt l
theorem prt_app (l m : List Tk) : prt (l ++ m) = prt l + prt m := by
  induction l with
  | nil => simp [prt]
  | cons a l ih => simp only [List.cons_append, prt, ih]; omega
theorem prt_tkn (l : List Tk) (h : TkOK l) (s : Nat) : s * prt l ≤ tkn l s * M64 := by
  induction l with
  | nil => simp [prt]
  | cons a l ih =>
    have h1 := h.head
    have h2 := ih h.tail
    have h3 : s * (a.1 * M64 / a.2) ≤ upN s a.2 * a.1 * M64 := by
      have e1 := upN_enough (s := s) (show 1 ≤ a.2 by omega)
      have e2 := Nat.mul_le_mul_right (a.1 * M64 / a.2) e1
      have e3 := Nat.mul_le_mul_left (upN s a.2) (Nat.mul_div_le (a.1 * M64) a.2)
      rw [Nat.mul_assoc (upN s a.2) a.2] at e2
      rw [Nat.mul_assoc (upN s a.2) a.1]
      omega
    simp only [prt, tkn, Nat.mul_add, Nat.add_mul]
    omega
/-- All time is taken: there is none. -/
theorem no_room {c : Nat} {l : List Tk} (h : TkOK l) (hc : 1 ≤ c) (hp : M64 ≤ prt l) (t : Nat) : Fx c l t ≠ t := by
  intro e
  have h1 := prt_tkn l h t
  have h2 := Nat.mul_le_mul_left t hp
  have h3 : t * M64 ≤ tkn l t * M64 := Nat.le_trans h2 h1
  have h4 : t ≤ tkn l t := Nat.le_of_mul_le_mul_right h3 (by unfold M64; omega)
  unfold Fx at e
  omega
theorem tkn_mem {l : List Tk} {a : Tk} (h : a ∈ l) (s : Nat) : upN s a.2 * a.1 ≤ tkn l s := by
  induction l with
  | nil => cases h
  | cons b l ih =>
    rcases List.mem_cons.1 h with rfl | h
    · exact Nat.le_add_right _ _
    · have := ih h; simp only [tkn]; omega
theorem no_room1 {c : Nat} {l : List Tk} {a : Tk} (h : TkOK l) (ha : a ∈ l) (hc : 1 ≤ c) (hp : a.2 ≤ a.1) (t : Nat) : Fx c l t ≠ t := by
  intro e
  have h1 := tkn_mem ha t
  have h2 := upN_enough (s := t) (show 1 ≤ a.2 by have := h a ha; omega)
  have h3 := Nat.mul_le_mul_left (upN t a.2) hp
  unfold Fx at e
  omega
theorem fix_left {c : Nat} {l : List Tk} (h : TkOK l) (hp : prt l ≤ M64) {t : Nat} (e : Fx c l t = t) : c * M64 ≤ t * (M64 - prt l) := by
  have h1 := prt_tkn l h t
  have h2 : t * M64 = c * M64 + tkn l t * M64 := by rw [← Nat.add_mul]; unfold Fx at e; rw [e]
  rw [Nat.mul_sub]
  omega
theorem no_room2 {c : Nat} {l : List Tk} (h : TkOK l) (hp : prt l < M64) (hc : M64 - prt l ≤ c) {t : Nat} (ht : t < M64) : Fx c l t ≠ t := by
  intro e
  have h1 := fix_left h (Nat.le_of_lt hp) e
  have h2 := Nat.mul_le_mul_right M64 hc
  have h3 : M64 * (M64 - prt l) ≤ t * (M64 - prt l) := by rw [Nat.mul_comm M64]; omega
  have := Nat.le_of_mul_le_mul_right h3 (by omega)
  omega
theorem below_ok {c : Nat} {l : List Tk} (h : TkOK l) (hp : prt l < M64) {s : Nat} (hs : s * (M64 - prt l) ≤ c * M64) : s ≤ Fx c l s ∧ ∀ t, Fx c l t = t → s ≤ t := by
  constructor
  · have h1 := prt_tkn l h s
    rw [Nat.mul_sub] at hs
    have h2 : s * M64 ≤ (c + tkn l s) * M64 := by rw [Nat.add_mul]; have := Nat.mul_le_mul_left s (Nat.le_of_lt hp); omega
    exact Nat.le_of_mul_le_mul_right h2 (by unfold M64; omega)
  · intro t e
    have h1 := fix_left h (Nat.le_of_lt hp) e
    exact Nat.le_of_mul_le_mul_right (Nat.le_trans hs h1) (by omega)
theorem below_ok0 {c : Nat} {l : List Tk} (h : prt l = 0) : c ≤ Fx c l c ∧ ∀ t, Fx c l t = t → c ≤ t :=
  ⟨Nat.le_add_right _ _, fun t e => by unfold Fx at e; omega⟩
end Go.Proofs.Ytdemhhmceiaohaa
