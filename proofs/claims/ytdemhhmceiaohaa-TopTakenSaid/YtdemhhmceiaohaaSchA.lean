/- Counting the times at which something happens. Plain theorems. -/
import Derived.Test.YtdemhhmceiaohaaRtaM
namespace Go.Proofs.Ytdemhhmceiaohaa
set_option linter.unusedVariables false
/-- How many of the n times from a on. -/
def cntL (f : Nat → Bool) (a : Nat) : Nat → Nat
  | 0 => 0
  | n + 1 => cntL f a n + (f (a + n)).toNat
theorem cntL_add (f : Nat → Bool) (a m : Nat) : ∀ n, cntL f a (m + n) = cntL f a m + cntL f (a + m) n
  | 0 => rfl
  | n + 1 => by
    show cntL f a (m + n) + (f (a + (m + n))).toNat = cntL f a m + (cntL f (a + m) n + (f (a + m + n)).toNat)
    rw [cntL_add f a m n, Nat.add_assoc a m n]; omega
theorem cntL_le (f : Nat → Bool) (a : Nat) : ∀ n, cntL f a n ≤ n
  | 0 => Nat.le_refl _
  | n + 1 => by
    have := cntL_le f a n
    show cntL f a n + (f (a + n)).toNat ≤ n + 1
    cases f (a + n) <;> simp <;> omega
theorem cntL_like {f g : Nat → Bool} {a : Nat} : ∀ {n : Nat}, (∀ t, a ≤ t → t < a + n → f t = g t) → cntL f a n = cntL g a n
  | 0, _ => rfl
  | n + 1, h => by
    show cntL f a n + (f (a + n)).toNat = cntL g a n + (g (a + n)).toNat
    rw [cntL_like fun t h1 h2 => h t h1 (by omega), h (a + n) (by omega) (by omega)]
theorem cntL_none {f : Nat → Bool} {a : Nat} : ∀ {n : Nat}, (∀ t, a ≤ t → t < a + n → f t = false) → cntL f a n = 0
  | 0, _ => rfl
  | n + 1, h => by
    show cntL f a n + (f (a + n)).toNat = 0
    rw [cntL_none fun t h1 h2 => h t h1 (by omega), h (a + n) (by omega) (by omega)]; rfl
theorem cntL_mono (f : Nat → Bool) (a : Nat) {m n : Nat} (h : m ≤ n) : cntL f a m ≤ cntL f a n := by
  have e : n = m + (n - m) := by omega
  rw [e, cntL_add]; omega
/-- From a time t on there is nothing. -/
theorem cntL_stop {f : Nat → Bool} {a t n : Nat} (h : ∀ u, t ≤ u → f u = false) (h1 : a ≤ t) (h2 : t ≤ a + n) : cntL f a n = cntL f a (t - a) := by
  have e : n = (t - a) + (n - (t - a)) := by omega
  rw [e, cntL_add, cntL_none (f := f) (a := a + (t - a)) fun u hu _ => h u (by omega)]; omega
/-- What happens at one time more. -/
def also (f : Nat → Bool) (t : Nat) (b : Bool) : Nat → Bool := fun u => if u = t then b else f u
theorem also_self (f : Nat → Bool) (t : Nat) (b : Bool) : also f t b t = b := if_pos rfl
theorem also_ne (f : Nat → Bool) {t u : Nat} (b : Bool) (h : u ≠ t) : also f t b u = f u := if_neg h
theorem cntL_also {f : Nat → Bool} {a t n : Nat} (b : Bool) (h1 : a ≤ t) (h2 : t < a + n) (hf : f t = false) : cntL (also f t b) a n = cntL f a n + b.toNat := by
  have e : n = (t - a) + (1 + (n - (t - a) - 1)) := by omega
  rw [e, cntL_add, cntL_add, cntL_add f, cntL_add f]
  rw [cntL_like (f := also f t b) (g := f) (a := a) (n := t - a) fun u _ hu => also_ne f b (by omega)]
  rw [cntL_like (f := also f t b) (g := f) (a := a + (t - a) + 1) fun u hu _ => also_ne f b (by omega)]
  have e1 : cntL (also f t b) (a + (t - a)) 1 = b.toNat := by
    show 0 + (also f t b (a + (t - a) + 0)).toNat = _
    rw [show a + (t - a) + 0 = t by omega, also_self]; omega
  have e2 : cntL f (a + (t - a)) 1 = 0 := by
    show 0 + (f (a + (t - a) + 0)).toNat = _
    rw [show a + (t - a) + 0 = t by omega, hf]; rfl
  rw [e1, e2]; omega
theorem cntL_also_out {f : Nat → Bool} {a t n : Nat} (b : Bool) (h : t < a ∨ a + n ≤ t) : cntL (also f t b) a n = cntL f a n :=
  cntL_like fun u h1 h2 => also_ne f b (by omega)
/-- At most B in each span of P: so many in any span. -/
theorem cntL_up {f : Nat → Bool} {P B : Nat} (hP : 1 ≤ P) (h : ∀ s, cntL f s P ≤ B) : ∀ (m a L : Nat), L ≤ m * P → cntL f a L ≤ m * B
  | 0, a, L, hl => by
    obtain rfl : L = 0 := by omega
    exact Nat.zero_le _
  | m + 1, a, L, hl => by
    rw [Nat.add_mul] at hl ⊢
    by_cases hp : L ≤ P
    · have := cntL_mono f a hp
      have := h a
      omega
    · have e : L = P + (L - P) := by omega
      rw [e, cntL_add]
      have := h a
      have := cntL_up hP h m (a + P) (L - P) (by omega)
      omega
theorem cntL_span {f : Nat → Bool} {P B : Nat} (hP : 1 ≤ P) (h : ∀ s, cntL f s P ≤ B) (a L : Nat) : cntL f a L ≤ upN L P * B := cntL_up hP h _ a L (upN_enough hP)
/-- One of several: as many as of each, together. -/
def sumN (g : Nat → Nat) : Nat → Nat
  | 0 => 0
  | k + 1 => sumN g k + g k
theorem sumN_le {g h : Nat → Nat} : ∀ {k : Nat}, (∀ j, j < k → g j ≤ h j) → sumN g k ≤ sumN h k
  | 0, _ => Nat.le_refl _
  | k + 1, hh => Nat.add_le_add (sumN_le fun j hj => hh j (by omega)) (hh k (by omega))
theorem sumN_lt {g h : Nat → Nat} : ∀ {k : Nat}, (∀ j, j < k → g j ≤ h j) → (∃ j, j < k ∧ g j < h j) → sumN g k < sumN h k
  | 0, _, ⟨j, hj, _⟩ => by omega
  | k + 1, hh, ⟨j, hj, hlt⟩ => by
    show sumN g k + g k < sumN h k + h k
    have h1 := sumN_le (g := g) (h := h) (k := k) fun j hj => hh j (by omega)
    have h2 := hh k (by omega)
    by_cases e : j = k
    · subst e; omega
    · have := sumN_lt (g := g) (h := h) (k := k) (fun j hj => hh j (by omega)) ⟨j, by omega, hlt⟩
      omega
theorem sumN_add (g h : Nat → Nat) : ∀ k, sumN (fun j => g j + h j) k = sumN g k + sumN h k
  | 0 => rfl
  | k + 1 => by
    show sumN (fun j => g j + h j) k + (g k + h k) = sumN g k + g k + (sumN h k + h k)
    rw [sumN_add g h k]; omega
theorem sumN_zero : ∀ k, sumN (fun _ => 0) k = 0
  | 0 => rfl
  | k + 1 => sumN_zero k
theorem sumN_like {g h : Nat → Nat} : ∀ {k : Nat}, (∀ j, j < k → g j = h j) → sumN g k = sumN h k
  | 0, _ => rfl
  | k + 1, hh => by
    show sumN g k + g k = sumN h k + h k
    rw [sumN_like fun j hj => hh j (by omega), hh k (by omega)]
theorem sumN_one {g : Nat → Nat} {j : Nat} : ∀ {k : Nat}, j < k → (∀ i, i < k → i ≠ j → g i = 0) → sumN g k = g j
  | 0, h, _ => by omega
  | k + 1, h, hz => by
    show sumN g k + g k = g j
    by_cases e : j = k
    · subst e
      rw [sumN_like (h := fun _ => 0) fun i hi => hz i (by omega) (by omega), sumN_zero]; omega
    · rw [sumN_one (by omega) fun i hi hne => hz i (by omega) hne, hz k (by omega) (Ne.symm e)]; rfl
/-- If at each time one of some happens, there are as many as times. -/
theorem cntL_cover {F : Nat → Nat → Bool} {k a : Nat} : ∀ {n : Nat}, (∀ t, a ≤ t → t < a + n → ∃ j, j < k ∧ F j t = true) → n ≤ sumN (fun j => cntL (F j) a n) k
  | 0, _ => Nat.zero_le _
  | n + 1, h => by
    have h1 := cntL_cover (F := F) (k := k) (a := a) (n := n) fun t h1 h2 => h t h1 (by omega)
    show n + 1 ≤ sumN (fun j => cntL (F j) a n + (F j (a + n)).toNat) k
    rw [sumN_add]
    obtain ⟨j, hj, hF⟩ := h (a + n) (by omega) (by omega)
    have h2 : 1 ≤ sumN (fun j => (F j (a + n)).toNat) k := by
      have h3 := sumN_lt (g := fun _ => 0) (h := fun j => (F j (a + n)).toNat) (k := k) (fun _ _ => Nat.zero_le _) ⟨j, hj, by show 0 < (F j (a + n)).toNat; rw [hF]; decide⟩
      rw [sumN_zero] at h3; omega
    omega
end Go.Proofs.Ytdemhhmceiaohaa
