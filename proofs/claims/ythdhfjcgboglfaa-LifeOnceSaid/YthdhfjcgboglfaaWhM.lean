/- Layer 4: a wheel's levels and places. Plain theorems. -/
import Derived.Test.YthdhfjcgboglfaaMapC
import Derived.Test.YthdhfjcgboglfaaRtaL
namespace Go.Proofs.Ythdhfjcgboglfaa
set_option linter.unusedVariables false
/-- What is above a number's lowest l parts. -/
def pt (l : Nat) (a : Int) : Int := a / 64 ^ l
theorem p64 (l : Nat) : (0 : Int) < 64 ^ l := Int.pow_pos (by decide)
theorem p64s (l : Nat) : (64 : Int) ^ (l + 1) = 64 ^ l * 64 := Int.pow_succ 64 l
theorem pt_succ (l : Nat) (a : Int) : pt (l + 1) a = pt l a / 64 := by
  unfold pt; rw [p64s, Int.ediv_ediv_of_nonneg (Int.le_of_lt (p64 l))]
theorem pt_mono {l : Nat} {a b : Int} (h : a ≤ b) : pt l a ≤ pt l b := Int.ediv_le_ediv (p64 l) h
theorem pt_up {a b : Int} : ∀ {l : Nat} (d : Nat), pt l a = pt l b → pt (l + d) a = pt (l + d) b
  | l, 0, h => h
  | l, d + 1, h => by rw [show l + (d + 1) = (l + d) + 1 by omega, pt_succ, pt_succ, pt_up d h]
theorem pt_le {a b : Int} {l l' : Nat} (h : pt l a = pt l b) (hl : l ≤ l') : pt l' a = pt l' b := by
  have := pt_up (l' - l) h
  rwa [show l + (l' - l) = l' by omega] at this
theorem pt_bd (l : Nat) (a : Int) : pt l a * 64 ^ l ≤ a ∧ a < (pt l a + 1) * 64 ^ l :=
  ⟨Int.ediv_mul_le a (by have := p64 l; omega), Int.lt_ediv_add_one_mul_self a (p64 l)⟩
theorem pt_mul (l : Nat) (x : Int) : pt l (x * 64 ^ l) = x := Int.mul_ediv_cancel x (by have := p64 l; omega)
theorem pt_nn {l : Nat} {a : Int} (h : 0 ≤ a) : 0 ≤ pt l a := Int.ediv_nonneg h (Int.le_of_lt (p64 l))
/-- A timer lies at a level and a place. -/
def Sp (now at' : Int) (l : Nat) (p : Int) : Prop := pt (l + 1) at' = pt (l + 1) now ∧ pt l at' ≠ pt l now ∧ pt l at' % 64 = p
instance (now at' : Int) (l : Nat) (p : Int) : Decidable (Sp now at' l p) := by unfold Sp; infer_instance
/-- The first time that lies in a place. -/
def bg (now : Int) (l : Nat) (p : Int) : Int := (pt (l + 1) now * 64 + p) * 64 ^ l
section
variable {now at' at2 n' p p' : Int} {l l' : Nat}
theorem Sp.one (h : Sp now at' l p) (h' : Sp now at' l' p') : l = l' ∧ p = p' := by
  have e : l = l' := by
    apply Nat.le_antisymm
    · apply Nat.le_of_not_lt; intro hl
      exact h.2.1 (pt_le h'.1 hl)
    · apply Nat.le_of_not_lt; intro hl
      exact h'.2.1 (pt_le h.1 hl)
  subst e
  exact ⟨rfl, h.2.2.symm.trans h'.2.2⟩
theorem Sp.p_bd (h : Sp now at' l p) : 0 ≤ p ∧ p < 64 := by have := h.2.2; omega
theorem Sp.at_pt (h : Sp now at' l p) : pt l at' = pt (l + 1) now * 64 + p := by
  have h1 := h.1
  have h2 := h.2.2
  rw [pt_succ] at h1
  omega
theorem Sp.bg_eq (h : Sp now at' l p) : bg now l p = pt l at' * 64 ^ l := by unfold bg; rw [h.at_pt]
theorem Sp.bg_le (h : Sp now at' l p) : bg now l p ≤ at' := by rw [h.bg_eq]; exact (pt_bd l at').1
theorem Sp.lt_bg (h : Sp now at' l p) : at' < bg now l p + 64 ^ l := by
  rw [h.bg_eq]
  have := (pt_bd l at').2
  rw [Int.add_mul] at this
  omega
theorem Sp.pt_lt (h : Sp now at' l p) (hn : now < at') : pt l now < pt l at' := by
  have := pt_mono (l := l) (Int.le_of_lt hn)
  have := h.2.1
  omega
theorem mul_lt_of {x y : Int} (h : x < y) (l : Nat) : (x + 1) * 64 ^ l ≤ y * 64 ^ l := Int.mul_le_mul_of_nonneg_right (by omega) (Int.le_of_lt (p64 l))
theorem Sp.now_lt (h : Sp now at' l p) (hn : now < at') : now < bg now l p := by
  rw [h.bg_eq]
  exact Int.lt_of_lt_of_le (pt_bd l now).2 (mul_lt_of (h.pt_lt hn) l)
theorem Sp.bg_pt (h : Sp now at' l p) : pt l (bg now l p) = pt l at' := by rw [h.bg_eq, pt_mul]
theorem bg_pt1 (hp : 0 ≤ p ∧ p < 64) : pt (l + 1) (bg now l p) = pt (l + 1) now := by
  rw [pt_succ (a := bg now l p)]
  unfold bg
  rw [pt_mul]
  omega
theorem pt_of_lt {x : Int} (h : at' < x * 64 ^ l) : pt l at' < x := Int.ediv_lt_of_lt_mul (p64 l) h
/-- What lies behind goes off later, by a whole place at least. -/
theorem Sp.behind (h' : Sp now at2 l' p') (hn : now < at2) (hp : 0 ≤ p ∧ p < 64) (hlt : l < l' ∨ l = l' ∧ p < p') : bg now l p + 64 ^ l ≤ at2 := by
  rcases hlt with hl | ⟨rfl, hl⟩
  · have h1 : pt (l + 1) now < pt (l + 1) at2 := by
      have h2 := pt_mono (l := l + 1) (Int.le_of_lt hn)
      have h3 : pt (l + 1) at2 ≠ pt (l + 1) now := fun e => h'.2.1 (pt_le e hl)
      omega
    have h2 := (pt_bd (l + 1) at2).1
    have h3 := mul_lt_of h1 (l + 1)
    unfold bg
    rw [p64s] at h2 h3
    have h4 : (pt (l + 1) now * 64 + p) * 64 ^ l + 64 ^ l = (pt (l + 1) now * 64 + p + 1) * 64 ^ l := by rw [Int.add_mul _ 1, Int.one_mul]
    have h5 : (pt (l + 1) now * 64 + p + 1) * 64 ^ l ≤ ((pt (l + 1) now + 1) * 64) * 64 ^ l := Int.mul_le_mul_of_nonneg_right (by omega) (Int.le_of_lt (p64 l))
    have h6 : (pt (l + 1) now + 1) * (64 ^ l * 64) = ((pt (l + 1) now + 1) * 64) * 64 ^ l := by rw [Int.mul_comm (64 ^ l) 64, Int.mul_assoc]
    omega
  · have e := h'.at_pt
    have h2 := (pt_bd l at2).1
    rw [e] at h2
    unfold bg
    have h3 := mul_lt_of (show pt (l + 1) now * 64 + p < pt (l + 1) now * 64 + p' by omega) l
    rw [Int.add_mul _ 1, Int.one_mul] at h3
    omega
/-- It lies where it did, when the time goes on to what is ahead of it. -/
theorem Sp.stays (h' : Sp now at2 l' p') (hn : now < at2) (hp : 0 ≤ p ∧ p < 64) (hlt : l < l' ∨ l = l' ∧ p < p') (h1 : pt (l + 1) n' = pt (l + 1) now) (h2 : n' < bg now l p + 64 ^ l) : Sp n' at2 l' p' := by
  rcases hlt with hl | ⟨rfl, hl⟩
  · have e1 : pt l' n' = pt l' now := pt_le h1 hl
    have e2 : pt (l' + 1) n' = pt (l' + 1) now := pt_le h1 (by omega)
    exact ⟨h'.1.trans e2.symm, by rw [e1]; exact h'.2.1, h'.2.2⟩
  · refine ⟨h'.1.trans h1.symm, ?_, h'.2.2⟩
    have e := h'.at_pt
    unfold bg at h2
    rw [← Int.one_mul (64 ^ l), ← Int.mul_assoc, Int.mul_one, ← Int.add_mul] at h2
    have := pt_of_lt h2
    omega
theorem pt1_between (h : Sp now at' l p) (h1 : now ≤ n') (h2 : n' ≤ at') : pt (l + 1) n' = pt (l + 1) now := by
  have a := pt_mono (l := l + 1) h1
  have b := pt_mono (l := l + 1) h2
  have := h.1
  omega
/-- .. so too, when it goes on to a time ahead of its own place. -/
theorem Sp.stays0 (h : Sp now at' l p) (h1 : now ≤ n') (h2 : n' < bg now l p) : Sp n' at' l p := by
  have e := pt1_between h h1 (by have := h.bg_le; omega)
  refine ⟨h.1.trans e.symm, ?_, h.2.2⟩
  rw [h.bg_eq] at h2
  have := pt_of_lt h2
  omega
/-- .. and to the beginning of its own place: it goes off, or lies at a lesser level. -/
theorem Sp.opened (h : Sp now at' l p) (hx : bg now l p ≠ at') (h' : Sp (bg now l p) at' l' p') : l' < l := by
  apply Nat.lt_of_not_le
  intro hl
  exact h'.2.1 (pt_le h.bg_pt.symm hl)
end
/-! ### by its number among all places -/
def SpS (now at' : Int) (s : Nat) : Prop := Sp now at' (s / 64) ((s % 64 : Nat) : Int)
instance (now at' : Int) (s : Nat) : Decidable (SpS now at' s) := by unfold SpS; infer_instance
def bgS (now : Int) (s : Nat) : Int := bg now (s / 64) ((s % 64 : Nat) : Int)
def lw (s : Nat) : Int := 64 ^ (s / 64)
section
variable {now at' at2 n' : Int} {s s' : Nat}
theorem lw_pos (s : Nat) : 0 < lw s := p64 _
theorem pS (s : Nat) : (0 : Int) ≤ ((s % 64 : Nat) : Int) ∧ ((s % 64 : Nat) : Int) < 64 := by omega
theorem ltS (h : s < s') : s / 64 < s' / 64 ∨ s / 64 = s' / 64 ∧ ((s % 64 : Nat) : Int) < ((s' % 64 : Nat) : Int) := by omega
theorem SpS.one (h : SpS now at' s) (h' : SpS now at' s') : s = s' := by
  obtain ⟨a, b⟩ := Sp.one h h'
  omega
theorem SpS.bg_le (h : SpS now at' s) : bgS now s ≤ at' := Sp.bg_le h
theorem SpS.lt_bg (h : SpS now at' s) : at' < bgS now s + lw s := Sp.lt_bg h
theorem SpS.now_lt (h : SpS now at' s) (hn : now < at') : now < bgS now s := Sp.now_lt h hn
theorem SpS.behind (h' : SpS now at2 s') (hn : now < at2) (hlt : s < s') : bgS now s + lw s ≤ at2 := Sp.behind h' hn (pS s) (ltS hlt)
theorem bgS_pt1 : pt (s / 64 + 1) (bgS now s) = pt (s / 64 + 1) now := bg_pt1 (pS s)
theorem SpS.stays (h' : SpS now at2 s') (hn : now < at2) (hlt : s < s') (h1 : pt (s / 64 + 1) n' = pt (s / 64 + 1) now) (h2 : n' < bgS now s + lw s) : SpS n' at2 s' := Sp.stays h' hn (pS s) (ltS hlt) h1 h2
theorem SpS.stays0 (h : SpS now at' s) (h1 : now ≤ n') (h2 : n' < bgS now s) : SpS n' at' s := Sp.stays0 h h1 h2
theorem SpS.pt1 (h : SpS now at' s) (h1 : now ≤ n') (h2 : n' ≤ at') : pt (s / 64 + 1) n' = pt (s / 64 + 1) now := pt1_between h h1 h2
theorem SpS.opened (h : SpS now at' s) (hx : bgS now s ≠ at') (h' : SpS (bgS now s) at' s') : s' / 64 < s / 64 := Sp.opened h hx h'
end
/-! ### where the program finds it -/
theorem pt_nat (l a : Nat) : pt l (a : Int) = ((a / 2 ^ (6 * l) : Nat) : Int) := by
  unfold pt
  rw [Nat.pow_mul]
  simp
theorem xor_zero {a b : Nat} (h : a ^^^ b = 0) : a = b := Nat.eq_of_testBit_eq fun i => by
  have := congrArg (fun x => Nat.testBit x i) h
  simpa [Nat.testBit_xor] using this
theorem xor_div (a b j : Nat) : (a ^^^ b) / 2 ^ j = (a / 2 ^ j) ^^^ (b / 2 ^ j) := by
  simp only [← Nat.shiftRight_eq_div_pow, Nat.shiftRight_xor_distrib]
theorem xor_lt (a b j : Nat) : a ^^^ b < 2 ^ j ↔ a / 2 ^ j = b / 2 ^ j := by
  have hp : 0 < 2 ^ j := Nat.two_pow_pos j
  rw [← Nat.div_eq_zero_iff_lt hp, xor_div]
  constructor
  · intro h
    exact xor_zero h
  · intro h; rw [h]; simp
theorem spot_of (a b : Nat) (hab : a ≠ b) (ha : a < 2 ^ 62) (hb : b < 2 ^ 62) {l : Nat} (hl : l = (Lib.bitLen (a ^^^ b) - 1) / 6) : Sp b a l ((a / 2 ^ (6 * l) % 64 : Nat) : Int) ∧ l ≤ 10 := by
  have hd : 0 < a ^^^ b := Nat.pos_of_ne_zero fun h => hab (xor_zero h)
  have hlt : a ^^^ b < 2 ^ 62 := Nat.xor_lt_two_pow ha hb
  obtain ⟨h1, h2, h3⟩ := len_spec 62 (a ^^^ b) hd hlt (by omega)
  have hL : Lib.bitLen (a ^^^ b) ≤ 62 := by
    apply Nat.le_of_not_lt
    intro h
    have := Nat.pow_le_pow_right (show 0 < 2 by decide) (show 63 ≤ Lib.bitLen (a ^^^ b) from h)
    omega
  refine ⟨⟨?_, ?_, ?_⟩, by omega⟩
  · rw [pt_nat, pt_nat]
    congr 1
    refine (xor_lt a b _).1 (Nat.lt_of_lt_of_le h1 (Nat.pow_le_pow_right (by decide) (by omega)))
  · rw [pt_nat, pt_nat]
    intro h
    have h4 : a / 2 ^ (6 * l) = b / 2 ^ (6 * l) := by omega
    have h5 := (xor_lt a b _).2 h4
    have h6 := Nat.pow_le_pow_right (show 0 < 2 by decide) (show 6 * l ≤ Lib.bitLen (a ^^^ b) - 1 by omega)
    have h7 : 2 ^ Lib.bitLen (a ^^^ b) = 2 * 2 ^ (Lib.bitLen (a ^^^ b) - 1) := by
      rw [← Nat.pow_succ', show (Lib.bitLen (a ^^^ b) - 1).succ = Lib.bitLen (a ^^^ b) by omega]
    omega
  · rw [pt_nat]; omega
end Go.Proofs.Ythdhfjcgboglfaa
