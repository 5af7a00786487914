/- Layer 4: a wheel's levels and places. Plain theorems. Layer 4: a wheel in memory; where a timer lies, and when a place begins. Layer 4: a wheel's places, one turned; what is next, what is laid, cancelled, told. Layer 4: a timer is laid, cancelled, set; a new wheel. Layer 4: a new wheel; the timers of a place are gone over. Layer 4: which timers go off, in which order. Plain theorems. Layer 4: a place is opened. -/
import Derived.Test.YtdjhpdacglojaaaGreatMapC
import Derived.Test.YtdjhpdacglojaaaGreatRtaL
import Derived.Test.YtdjhpdacglojaaaGreatFam
import Derived.Test.YtdjhpdacglojaaaGreatFill
import Derived.Test.YtdjhpdacglojaaaGreatFr
import Derived.Laws.BitsLemmas
import Derived.WalkMore
namespace Go.Proofs.YtdjhpdacglojaaaGreat
open Go.RowKit
section
set_option linter.unusedVariables false
/-- What is above a number's lowest l parts. -/
def pt (l : Nat) (a : Int) : Int := a / 64 ^ l
theorem p64 (l : Nat) : (0 : Int) < 64 ^ l := Int.pow_pos (by decide)
theorem p64s (l : Nat) : (64 : Int) ^ (l + 1) = 64 ^ l * 64 := Int.pow_succ 64 l
theorem pt_succ (l : Nat) (a : Int) : pt (l + 1) a = pt l a / 64 := by
  unfold pt; rw [p64s, Int.ediv_ediv_of_nonneg (Int.le_of_lt (p64 l))]
theorem pt_mono {l : Nat} {a b : Int} (h : a ≤ b) : pt l a ≤ pt l b := Int.ediv_le_ediv (p64 l) h
theorem pt_up {a b : Int} : ∀ {l : Nat} (d : Nat), pt l a = pt l b → pt (l + d) a = pt (l + d) b
  | l, 0, h => h
  | l, d + 1, h => by rw [show l + (d + 1) = (l + d) + 1 by omega, pt_succ, pt_succ, pt_up d h]
theorem pt_le {a b : Int} {l l' : Nat} (h : pt l a = pt l b) (hl : l ≤ l') : pt l' a = pt l' b := by
  have := pt_up (l' - l) h
  rwa [show l + (l' - l) = l' by omega] at this
theorem pt_bd (l : Nat) (a : Int) : pt l a * 64 ^ l ≤ a ∧ a < (pt l a + 1) * 64 ^ l :=
  ⟨Int.ediv_mul_le a (by have := p64 l; omega), Int.lt_ediv_add_one_mul_self a (p64 l)⟩
theorem pt_mul (l : Nat) (x : Int) : pt l (x * 64 ^ l) = x := Int.mul_ediv_cancel x (by have := p64 l; omega)
theorem pt_nn {l : Nat} {a : Int} (h : 0 ≤ a) : 0 ≤ pt l a := Int.ediv_nonneg h (Int.le_of_lt (p64 l))
/-- A timer lies at a level and a place. -/
def Sp (now at' : Int) (l : Nat) (p : Int) : Prop := pt (l + 1) at' = pt (l + 1) now ∧ pt l at' ≠ pt l now ∧ pt l at' % 64 = p
instance (now at' : Int) (l : Nat) (p : Int) : Decidable (Sp now at' l p) := by unfold Sp; infer_instance
/-- The first time that lies in a place. -/
def bg (now : Int) (l : Nat) (p : Int) : Int := (pt (l + 1) now * 64 + p) * 64 ^ l
section
variable {now at' at2 n' p p' : Int} {l l' : Nat}
theorem Sp.one (h : Sp now at' l p) (h' : Sp now at' l' p') : l = l' ∧ p = p' := by
  have e : l = l' := by
    apply Nat.le_antisymm
    · apply Nat.le_of_not_lt; intro hl
      exact h.2.1 (pt_le h'.1 hl)
    · apply Nat.le_of_not_lt; intro hl
      exact h'.2.1 (pt_le h.1 hl)
  subst e
  exact ⟨rfl, h.2.2.symm.trans h'.2.2⟩
theorem Sp.p_bd (h : Sp now at' l p) : 0 ≤ p ∧ p < 64 := by have := h.2.2; omega
theorem Sp.at_pt (h : Sp now at' l p) : pt l at' = pt (l + 1) now * 64 + p := by
  have h1 := h.1
  have h2 := h.2.2
  rw [pt_succ] at h1
  omega
theorem Sp.bg_eq (h : Sp now at' l p) : bg now l p = pt l at' * 64 ^ l := by unfold bg; rw [h.at_pt]
theorem Sp.bg_le (h : Sp now at' l p) : bg now l p ≤ at' := by rw [h.bg_eq]; exact (pt_bd l at').1
theorem Sp.lt_bg (h : Sp now at' l p) : at' < bg now l p + 64 ^ l := by
  rw [h.bg_eq]
  have := (pt_bd l at').2
  rw [Int.add_mul] at this
  omega
theorem Sp.pt_lt (h : Sp now at' l p) (hn : now < at') : pt l now < pt l at' := by
  have := pt_mono (l := l) (Int.le_of_lt hn)
  have := h.2.1
  omega
theorem mul_lt_of {x y : Int} (h : x < y) (l : Nat) : (x + 1) * 64 ^ l ≤ y * 64 ^ l := Int.mul_le_mul_of_nonneg_right (by omega) (Int.le_of_lt (p64 l))
theorem Sp.now_lt (h : Sp now at' l p) (hn : now < at') : now < bg now l p := by
  rw [h.bg_eq]
  exact Int.lt_of_lt_of_le (pt_bd l now).2 (mul_lt_of (h.pt_lt hn) l)
theorem Sp.bg_pt (h : Sp now at' l p) : pt l (bg now l p) = pt l at' := by rw [h.bg_eq, pt_mul]
theorem bg_pt1 (hp : 0 ≤ p ∧ p < 64) : pt (l + 1) (bg now l p) = pt (l + 1) now := by
  rw [pt_succ (a := bg now l p)]
  unfold bg
  rw [pt_mul]
  omega
theorem pt_of_lt {x : Int} (h : at' < x * 64 ^ l) : pt l at' < x := Int.ediv_lt_of_lt_mul (p64 l) h
/-- What lies behind goes off later, by a whole place at least. -/
theorem Sp.behind (h' : Sp now at2 l' p') (hn : now < at2) (hp : 0 ≤ p ∧ p < 64) (hlt : l < l' ∨ l = l' ∧ p < p') : bg now l p + 64 ^ l ≤ at2 := by
  rcases hlt with hl | ⟨rfl, hl⟩
  · have h1 : pt (l + 1) now < pt (l + 1) at2 := by
      have h2 := pt_mono (l := l + 1) (Int.le_of_lt hn)
      have h3 : pt (l + 1) at2 ≠ pt (l + 1) now := fun e => h'.2.1 (pt_le e hl)
      omega
    have h2 := (pt_bd (l + 1) at2).1
    have h3 := mul_lt_of h1 (l + 1)
    unfold bg
    rw [p64s] at h2 h3
    have h4 : (pt (l + 1) now * 64 + p) * 64 ^ l + 64 ^ l = (pt (l + 1) now * 64 + p + 1) * 64 ^ l := by rw [Int.add_mul _ 1, Int.one_mul]
    have h5 : (pt (l + 1) now * 64 + p + 1) * 64 ^ l ≤ ((pt (l + 1) now + 1) * 64) * 64 ^ l := Int.mul_le_mul_of_nonneg_right (by omega) (Int.le_of_lt (p64 l))
    have h6 : (pt (l + 1) now + 1) * (64 ^ l * 64) = ((pt (l + 1) now + 1) * 64) * 64 ^ l := by rw [Int.mul_comm (64 ^ l) 64, Int.mul_assoc]
    omega
  · have e := h'.at_pt
    have h2 := (pt_bd l at2).1
    rw [e] at h2
    unfold bg
    have h3 := mul_lt_of (show pt (l + 1) now * 64 + p < pt (l + 1) now * 64 + p' by omega) l
    rw [Int.add_mul _ 1, Int.one_mul] at h3
    omega
/-- It lies where it did, when the time goes on to what is ahead of it. -/
theorem Sp.stays (h' : Sp now at2 l' p') (hn : now < at2) (hp : 0 ≤ p ∧ p < 64) (hlt : l < l' ∨ l = l' ∧ p < p') (h1 : pt (l + 1) n' = pt (l + 1) now) (h2 : n' < bg now l p + 64 ^ l) : Sp n' at2 l' p' := by
  rcases hlt with hl | ⟨rfl, hl⟩
  · have e1 : pt l' n' = pt l' now := pt_le h1 hl
    have e2 : pt (l' + 1) n' = pt (l' + 1) now := pt_le h1 (by omega)
    exact ⟨h'.1.trans e2.symm, by rw [e1]; exact h'.2.1, h'.2.2⟩
  · refine ⟨h'.1.trans h1.symm, ?_, h'.2.2⟩
    have e := h'.at_pt
    unfold bg at h2
    rw [← Int.one_mul (64 ^ l), ← Int.mul_assoc, Int.mul_one, ← Int.add_mul] at h2
    have := pt_of_lt h2
    omega
theorem pt1_between (h : Sp now at' l p) (h1 : now ≤ n') (h2 : n' ≤ at') : pt (l + 1) n' = pt (l + 1) now := by
  have a := pt_mono (l := l + 1) h1
  have b := pt_mono (l := l + 1) h2
  have := h.1
  omega
/-- .. so too, when it goes on to a time ahead of its own place. -/
theorem Sp.stays0 (h : Sp now at' l p) (h1 : now ≤ n') (h2 : n' < bg now l p) : Sp n' at' l p := by
  have e := pt1_between h h1 (by have := h.bg_le; omega)
  refine ⟨h.1.trans e.symm, ?_, h.2.2⟩
  rw [h.bg_eq] at h2
  have := pt_of_lt h2
  omega
/-- .. and to the beginning of its own place: it goes off, or lies at a lesser level. -/
theorem Sp.opened (h : Sp now at' l p) (hx : bg now l p ≠ at') (h' : Sp (bg now l p) at' l' p') : l' < l := by
  apply Nat.lt_of_not_le
  intro hl
  exact h'.2.1 (pt_le h.bg_pt.symm hl)
end
/-! ### by its number among all places -/
def SpS (now at' : Int) (s : Nat) : Prop := Sp now at' (s / 64) ((s % 64 : Nat) : Int)
instance (now at' : Int) (s : Nat) : Decidable (SpS now at' s) := by unfold SpS; infer_instance
def bgS (now : Int) (s : Nat) : Int := bg now (s / 64) ((s % 64 : Nat) : Int)
def lw (s : Nat) : Int := 64 ^ (s / 64)
section
variable {now at' at2 n' : Int} {s s' : Nat}
theorem lw_pos (s : Nat) : 0 < lw s := p64 _
theorem pS (s : Nat) : (0 : Int) ≤ ((s % 64 : Nat) : Int) ∧ ((s % 64 : Nat) : Int) < 64 := by omega
theorem ltS (h : s < s') : s / 64 < s' / 64 ∨ s / 64 = s' / 64 ∧ ((s % 64 : Nat) : Int) < ((s' % 64 : Nat) : Int) := by omega
theorem SpS.one (h : SpS now at' s) (h' : SpS now at' s') : s = s' := by
  obtain ⟨a, b⟩ := Sp.one h h'
  omega
theorem SpS.bg_le (h : SpS now at' s) : bgS now s ≤ at' := Sp.bg_le h
theorem SpS.lt_bg (h : SpS now at' s) : at' < bgS now s + lw s := Sp.lt_bg h
theorem SpS.now_lt (h : SpS now at' s) (hn : now < at') : now < bgS now s := Sp.now_lt h hn
theorem SpS.behind (h' : SpS now at2 s') (hn : now < at2) (hlt : s < s') : bgS now s + lw s ≤ at2 := Sp.behind h' hn (pS s) (ltS hlt)
theorem bgS_pt1 : pt (s / 64 + 1) (bgS now s) = pt (s / 64 + 1) now := bg_pt1 (pS s)
theorem SpS.stays (h' : SpS now at2 s') (hn : now < at2) (hlt : s < s') (h1 : pt (s / 64 + 1) n' = pt (s / 64 + 1) now) (h2 : n' < bgS now s + lw s) : SpS n' at2 s' := Sp.stays h' hn (pS s) (ltS hlt) h1 h2
theorem SpS.stays0 (h : SpS now at' s) (h1 : now ≤ n') (h2 : n' < bgS now s) : SpS n' at' s := Sp.stays0 h h1 h2
theorem SpS.pt1 (h : SpS now at' s) (h1 : now ≤ n') (h2 : n' ≤ at') : pt (s / 64 + 1) n' = pt (s / 64 + 1) now := pt1_between h h1 h2
theorem SpS.opened (h : SpS now at' s) (hx : bgS now s ≠ at') (h' : SpS (bgS now s) at' s') : s' / 64 < s / 64 := Sp.opened h hx h'
end
/-! ### where the program finds it -/
theorem pt_nat (l a : Nat) : pt l (a : Int) = ((a / 2 ^ (6 * l) : Nat) : Int) := by
  unfold pt
  rw [Nat.pow_mul]
  simp
theorem xor_zero {a b : Nat} (h : a ^^^ b = 0) : a = b := Nat.eq_of_testBit_eq fun i => by
  have := congrArg (fun x => Nat.testBit x i) h
  simpa [Nat.testBit_xor] using this
theorem xor_div (a b j : Nat) : (a ^^^ b) / 2 ^ j = (a / 2 ^ j) ^^^ (b / 2 ^ j) := by
  simp only [← Nat.shiftRight_eq_div_pow, Nat.shiftRight_xor_distrib]
theorem xor_lt (a b j : Nat) : a ^^^ b < 2 ^ j ↔ a / 2 ^ j = b / 2 ^ j := by
  have hp : 0 < 2 ^ j := Nat.two_pow_pos j
  rw [← Nat.div_eq_zero_iff_lt hp, xor_div]
  constructor
  · intro h
    exact xor_zero h
  · intro h; rw [h]; simp
theorem spot_of (a b : Nat) (hab : a ≠ b) (ha : a < 2 ^ 62) (hb : b < 2 ^ 62) {l : Nat} (hl : l = (Lib.bitLen (a ^^^ b) - 1) / 6) : Sp b a l ((a / 2 ^ (6 * l) % 64 : Nat) : Int) ∧ l ≤ 10 := by
  have hd : 0 < a ^^^ b := Nat.pos_of_ne_zero fun h => hab (xor_zero h)
  have hlt : a ^^^ b < 2 ^ 62 := Nat.xor_lt_two_pow ha hb
  obtain ⟨h1, h2, h3⟩ := len_spec 62 (a ^^^ b) hd hlt (by omega)
  have hL : Lib.bitLen (a ^^^ b) ≤ 62 := by
    apply Nat.le_of_not_lt
    intro h
    have := Nat.pow_le_pow_right (show 0 < 2 by decide) (show 63 ≤ Lib.bitLen (a ^^^ b) from h)
    omega
  refine ⟨⟨?_, ?_, ?_⟩, by omega⟩
  · rw [pt_nat, pt_nat]
    congr 1
    refine (xor_lt a b _).1 (Nat.lt_of_lt_of_le h1 (Nat.pow_le_pow_right (by decide) (by omega)))
  · rw [pt_nat, pt_nat]
    intro h
    have h4 : a / 2 ^ (6 * l) = b / 2 ^ (6 * l) := by omega
    have h5 := (xor_lt a b _).2 h4
    have h6 := Nat.pow_le_pow_right (show 0 < 2 by decide) (show 6 * l ≤ Lib.bitLen (a ^^^ b) - 1 by omega)
    have h7 : 2 ^ Lib.bitLen (a ^^^ b) = 2 * 2 ^ (Lib.bitLen (a ^^^ b) - 1) := by
      rw [← Nat.pow_succ', show (Lib.bitLen (a ^^^ b) - 1).succ = Lib.bitLen (a ^^^ b) by omega]
    omega
  · rw [pt_nat]; omega
end
section
set_option linter.unusedVariables false
set_option maxRecDepth 100000
set_option maxHeartbeats 2000000
def WV (W : Int → Option Int) : Int → Option Value := fun i => (W i).map fun a => .int .u64 a
/-- The timers of a place. -/
def MS (T : Int → Option Int) (now : Int) (s : Nat) : Int → Option Value := fun i => match T i with
  | some a => if SpS now a s then some (.int .u64 a) else none
  | none => none
def wv (now : Int) (bw : Nat) (mb : Nat → Option Nat) (k : Nat) : Value := if k = 0 then .int .u64 now else if k = 1 then .map (some bw) else .map (mb (k - 2))
/-- A wheel: its cells, the timers that it knows (W), those that lie in places (T), and X. -/
def WL (m c bw : Nat) (now : Int) (mb : Nat → Option Nat) (W T : Int → Option Int) (X : List Res) : List Res :=
  ([ArrR c 267 706 (wv now bw mb), OptM Tryz.prog 3 (some bw) (WV W)] ++ (List.range m).map (fun s => OptM Tryz.prog 3 (mb s) (MS T now s))) ++ X
section
variable {w0 w w' : World} {S0 S : Nat → Prop} {L X : List Res} {m c bw s : Nat} {now at' : Int} {mb : Nat → Option Nat} {W T : Int → Option Int}
theorem wl_0 : (WL m c bw now mb W T X)[0]? = some (ArrR c 267 706 (wv now bw mb)) := rfl
theorem wl_1 : (WL m c bw now mb W T X)[1]? = some (OptM Tryz.prog 3 (some bw) (WV W)) := rfl
theorem wl_s (hs : s < m) : (WL m c bw now mb W T X)[2 + s]? = some (OptM Tryz.prog 3 (mb s) (MS T now s)) := by
  unfold WL
  rw [List.getElem?_append_left (by simp; omega)]
  exact fam_at [_, _] (fun s => OptM Tryz.prog 3 (mb s) (MS T now s)) hs
theorem wl_x {k : Nat} {R : Res} (hx : X[k]? = some R) : (WL m c bw now mb W T X)[2 + m + k]? = some R := by
  unfold WL
  rw [List.getElem?_append_right (by simp; omega)]
  have e : 2 + m + k - ([ArrR c 267 706 (wv now bw mb), OptM Tryz.prog 3 (some bw) (WV W)] ++ (List.range m).map (fun s => OptM Tryz.prog 3 (mb s) (MS T now s))).length = k := by simp; omega
  rw [e]; exact hx
theorem wl_app {N : List Res} : WL m c bw now mb W T X ++ N = WL m c bw now mb W T (X ++ N) := by unfold WL; rw [List.append_assoc]
theorem wl_now (H : St w0 S0 w (WL m c bw now mb W T X)) : w.cell? ⟨c, 0, none⟩ = some (.int .u64 now) := H.arr_cell 0 wl_0 (by decide)
theorem wl_when (H : St w0 S0 w (WL m c bw now mb W T X)) : w.cell? ⟨c, 1, none⟩ = some (.map (some bw)) := H.arr_cell 0 wl_0 (by decide)
theorem wl_cell (H : St w0 S0 w (WL m c bw now mb W T X)) (hs : s < 704) : w.cell? ⟨c, 2 + s, none⟩ = some (.map (mb s)) := by
  rw [H.arr_cell 0 wl_0 (show 2 + s < 706 by omega)]
  unfold wv
  rw [if_neg (by omega), if_neg (by omega)]
  congr 3; omega
theorem bits_xor (a b : Nat) (ha : a < 18446744073709551616) (hb : b < 18446744073709551616) : bits .xor .u64 (a : Int) (b : Int) = ((a ^^^ b : Nat) : Int) := by
  have ha' : a % 2 ^ IntKind.u64.bits = a := Nat.mod_eq_of_lt ha
  have hb' : b % 2 ^ IntKind.u64.bits = b := Nat.mod_eq_of_lt hb
  simp only [bits, BitVec.ofInt_natCast, BitVec.toNat_xor, BitVec.toNat_ofNat, ha', hb']
  have : a ^^^ b < 2 ^ 64 := Nat.xor_lt_two_pow ha hb
  exact IntWalk.u64_in _ ⟨by omega, by omega⟩
theorem two_eq {a b c d : Int} (h1 : a = c) (h2 : b = d) : Ending.returned (.tuple #[.int .i64 a, .int .i64 b]) = Ending.returned (.tuple #[.int .i64 c, .int .i64 d]) := by rw [h1, h2]
theorem spot_c (H : St w0 S0 w (WL m c bw now mb W T X)) (h0 : 0 ≤ now) (h1 : now < at') (h2 : at' < 4611686018427387904) :
    Calls Tryz.prog 168 #[.pointer (some ⟨c, 0, none⟩), .int .u64 at'] w fun e w' => ∃ s : Nat, s < 704 ∧ SpS now at' s ∧ e = .returned (.tuple #[.int .i64 ((s / 64 : Nat) : Int), .int .i64 ((s % 64 : Nat) : Int)]) ∧ St w0 S0 w' (WL m c bw now mb W T X) := by
  have c0 := wl_now H
  have HH := Lib.hid H
  obtain ⟨a, rfl⟩ := Int.eq_ofNat_of_zero_le (show 0 ≤ at' by omega)
  obtain ⟨b, rfl⟩ := Int.eq_ofNat_of_zero_le h0
  have hx := bits_xor a b (by omega) (by omega)
  have hd : 0 < a ^^^ b := Nat.pos_of_ne_zero fun h => by have := xor_zero h; omega
  have hlt : a ^^^ b < 2 ^ 62 := Nat.xor_lt_two_pow (by omega) (by omega)
  have C := Lib.hid (len64_c ((a ^^^ b : Nat) : Int) w (by omega) (by omega))
  obtain ⟨e1, e2, e3⟩ := len_spec 62 (a ^^^ b) hd hlt (by omega)
  have hso := spot_of a b (by omega) (by omega) (by omega) rfl
  rw [Int.toNat_natCast] at C
  obtain ⟨B, hB⟩ : ∃ B, Lib.bitLen (a ^^^ b) = B := ⟨_, rfl⟩
  rw [hB] at C hso e1 e2 e3
  have e4 : B ≤ 62 := by
    apply Nat.le_of_not_lt
    intro h
    have := Nat.pow_le_pow_right (show 0 < 2 by decide) (show 63 ≤ B from h)
    omega
  obtain ⟨l, hl⟩ : ∃ l, (B - 1) / 6 = l := ⟨_, rfl⟩
  rw [hl] at hso
  have hl10 := hso.2
  have HS := Lib.hid hso.1
  have f1 : (0 : Int) ≤ (B : Int) - 1 := by omega
  have f2 : (B : Int) - 1 ≤ 61 := by omega
  have f3 : ((B : Int) - 1) / 6 = (l : Int) := by omega
  have f4 : Int.tdiv ((B : Int) - 1) 6 = (l : Int) := by rw [Int.tdiv_eq_ediv_of_nonneg f1]; exact f3
  clear H hso hB e1 e2 hd hlt hl
  go_enter Tryz.func168, Tryz.ntmps168
  go_wp2_with fail
  refine C.out.mono ?_
  rintro e w' ⟨rfl, rfl⟩
  clear C hx
  obtain ⟨li, hli⟩ : ∃ li : Int, (l : Int) = li := ⟨_, rfl⟩
  rw [hli] at f3 f4
  have hc : li = 0 ∨ li = 1 ∨ li = 2 ∨ li = 3 ∨ li = 4 ∨ li = 5 ∨ li = 6 ∨ li = 7 ∨ li = 8 ∨ li = 9 ∨ li = 10 := by omega
  have HLI := Lib.hid hli
  clear hli hl10
  rcases hc with rfl | rfl | rfl | rfl | rfl | rfl | rfl | rfl | rfl | rfl | rfl
  · obtain rfl : l = 0 := by have := HLI.out; omega
    have hs := HS.out
    rw [show 2 ^ (6 * 0) = 1 from rfl] at hs
    go_wp2_with fail
    go_quiet (fail)
    go_wp2_with fail
    go_ret2
    refine ⟨0 * 64 + a / 1 % 64, by omega, ?_, ?_, HH.out.drewN _⟩
    · unfold SpS
      rw [show (0 * 64 + a / 1 % 64) / 64 = 0 by omega, show (0 * 64 + a / 1 % 64) % 64 = a / 1 % 64 by omega]
      exact hs
    · exact two_eq (by omega) (by omega)
  · obtain rfl : l = 1 := by have := HLI.out; omega
    have hs := HS.out
    rw [show 2 ^ (6 * 1) = 64 from rfl] at hs
    go_wp2_with fail
    go_quiet (fail)
    go_wp2_with fail
    go_ret2
    refine ⟨1 * 64 + a / 64 % 64, by omega, ?_, ?_, HH.out.drewN _⟩
    · unfold SpS
      rw [show (1 * 64 + a / 64 % 64) / 64 = 1 by omega, show (1 * 64 + a / 64 % 64) % 64 = a / 64 % 64 by omega]
      exact hs
    · exact two_eq (by omega) (by omega)
  · obtain rfl : l = 2 := by have := HLI.out; omega
    have hs := HS.out
    rw [show 2 ^ (6 * 2) = 4096 from rfl] at hs
    go_wp2_with fail
    go_quiet (fail)
    go_wp2_with fail
    go_ret2
    refine ⟨2 * 64 + a / 4096 % 64, by omega, ?_, ?_, HH.out.drewN _⟩
    · unfold SpS
      rw [show (2 * 64 + a / 4096 % 64) / 64 = 2 by omega, show (2 * 64 + a / 4096 % 64) % 64 = a / 4096 % 64 by omega]
      exact hs
    · exact two_eq (by omega) (by omega)
  · obtain rfl : l = 3 := by have := HLI.out; omega
    have hs := HS.out
    rw [show 2 ^ (6 * 3) = 262144 from rfl] at hs
    go_wp2_with fail
    go_quiet (fail)
    go_wp2_with fail
    go_ret2
    refine ⟨3 * 64 + a / 262144 % 64, by omega, ?_, ?_, HH.out.drewN _⟩
    · unfold SpS
      rw [show (3 * 64 + a / 262144 % 64) / 64 = 3 by omega, show (3 * 64 + a / 262144 % 64) % 64 = a / 262144 % 64 by omega]
      exact hs
    · exact two_eq (by omega) (by omega)
  · obtain rfl : l = 4 := by have := HLI.out; omega
    have hs := HS.out
    rw [show 2 ^ (6 * 4) = 16777216 from rfl] at hs
    go_wp2_with fail
    go_quiet (fail)
    go_wp2_with fail
    go_ret2
    refine ⟨4 * 64 + a / 16777216 % 64, by omega, ?_, ?_, HH.out.drewN _⟩
    · unfold SpS
      rw [show (4 * 64 + a / 16777216 % 64) / 64 = 4 by omega, show (4 * 64 + a / 16777216 % 64) % 64 = a / 16777216 % 64 by omega]
      exact hs
    · exact two_eq (by omega) (by omega)
  · obtain rfl : l = 5 := by have := HLI.out; omega
    have hs := HS.out
    rw [show 2 ^ (6 * 5) = 1073741824 from rfl] at hs
    go_wp2_with fail
    go_quiet (fail)
    go_wp2_with fail
    go_ret2
    refine ⟨5 * 64 + a / 1073741824 % 64, by omega, ?_, ?_, HH.out.drewN _⟩
    · unfold SpS
      rw [show (5 * 64 + a / 1073741824 % 64) / 64 = 5 by omega, show (5 * 64 + a / 1073741824 % 64) % 64 = a / 1073741824 % 64 by omega]
      exact hs
    · exact two_eq (by omega) (by omega)
  · obtain rfl : l = 6 := by have := HLI.out; omega
    have hs := HS.out
    rw [show 2 ^ (6 * 6) = 68719476736 from rfl] at hs
    go_wp2_with fail
    go_quiet (fail)
    go_wp2_with fail
    go_ret2
    refine ⟨6 * 64 + a / 68719476736 % 64, by omega, ?_, ?_, HH.out.drewN _⟩
    · unfold SpS
      rw [show (6 * 64 + a / 68719476736 % 64) / 64 = 6 by omega, show (6 * 64 + a / 68719476736 % 64) % 64 = a / 68719476736 % 64 by omega]
      exact hs
    · exact two_eq (by omega) (by omega)
  · obtain rfl : l = 7 := by have := HLI.out; omega
    have hs := HS.out
    rw [show 2 ^ (6 * 7) = 4398046511104 from rfl] at hs
    go_wp2_with fail
    go_quiet (fail)
    go_wp2_with fail
    go_ret2
    refine ⟨7 * 64 + a / 4398046511104 % 64, by omega, ?_, ?_, HH.out.drewN _⟩
    · unfold SpS
      rw [show (7 * 64 + a / 4398046511104 % 64) / 64 = 7 by omega, show (7 * 64 + a / 4398046511104 % 64) % 64 = a / 4398046511104 % 64 by omega]
      exact hs
    · exact two_eq (by omega) (by omega)
  · obtain rfl : l = 8 := by have := HLI.out; omega
    have hs := HS.out
    rw [show 2 ^ (6 * 8) = 281474976710656 from rfl] at hs
    go_wp2_with fail
    go_quiet (fail)
    go_wp2_with fail
    go_ret2
    refine ⟨8 * 64 + a / 281474976710656 % 64, by omega, ?_, ?_, HH.out.drewN _⟩
    · unfold SpS
      rw [show (8 * 64 + a / 281474976710656 % 64) / 64 = 8 by omega, show (8 * 64 + a / 281474976710656 % 64) % 64 = a / 281474976710656 % 64 by omega]
      exact hs
    · exact two_eq (by omega) (by omega)
  · obtain rfl : l = 9 := by have := HLI.out; omega
    have hs := HS.out
    rw [show 2 ^ (6 * 9) = 18014398509481984 from rfl] at hs
    go_wp2_with fail
    go_quiet (fail)
    go_wp2_with fail
    go_ret2
    refine ⟨9 * 64 + a / 18014398509481984 % 64, by omega, ?_, ?_, HH.out.drewN _⟩
    · unfold SpS
      rw [show (9 * 64 + a / 18014398509481984 % 64) / 64 = 9 by omega, show (9 * 64 + a / 18014398509481984 % 64) % 64 = a / 18014398509481984 % 64 by omega]
      exact hs
    · exact two_eq (by omega) (by omega)
  · obtain rfl : l = 10 := by have := HLI.out; omega
    have hs := HS.out
    rw [show 2 ^ (6 * 10) = 1152921504606846976 from rfl] at hs
    go_wp2_with fail
    go_quiet (fail)
    go_wp2_with fail
    go_ret2
    refine ⟨10 * 64 + a / 1152921504606846976 % 64, by omega, ?_, ?_, HH.out.drewN _⟩
    · unfold SpS
      rw [show (10 * 64 + a / 1152921504606846976 % 64) / 64 = 10 by omega, show (10 * 64 + a / 1152921504606846976 % 64) % 64 = a / 1152921504606846976 % 64 by omega]
      exact hs
    · exact two_eq (by omega) (by omega)
theorem or_bg (now p : Int) (l : Nat) (M K : Int) (hM : M = 64 ^ (l + 1)) (hK : K = 64 ^ l) (h0 : 0 ≤ now) (h1 : now < 4611686018427387904) (p0 : 0 ≤ p) (p1 : p < 64) (hb : bg now l p < 4611686018427387904) : bits .or .u64 (now / M * M) (p * K) = bg now l p := by
  subst hM hK
  have k0 := p64 l
  have m0 := p64 (l + 1)
  have e2 : (2 : Int) ^ (6 * (l + 1)) = 64 ^ (l + 1) := by rw [Int.pow_mul]; rfl
  have x0 : 0 ≤ now / 64 ^ (l + 1) * 64 ^ (l + 1) := Int.mul_nonneg (Int.ediv_nonneg h0 (by omega)) (by omega)
  have x1 := Int.ediv_mul_le now (b := 64 ^ (l + 1)) (by omega)
  have y0 : 0 ≤ p * 64 ^ l := Int.mul_nonneg p0 (by omega)
  have y1 : p * 64 ^ l < 64 ^ (l + 1) := by
    rw [p64s, Int.mul_comm (64 ^ l) 64]
    exact Int.mul_lt_mul_of_pos_right p1 k0
  have eb : bg now l p = now / 64 ^ (l + 1) * 64 ^ (l + 1) + p * 64 ^ l := by
    unfold bg pt
    rw [Int.add_mul, p64s, Int.mul_assoc, Int.mul_comm 64 (64 ^ l)]
  rw [bits_join .u64 62 (by decide) (fun n a b => IntWalk.u64_in n ⟨a, by have : (2 : Int) ^ 62 = 4611686018427387904 := rfl; omega⟩) (6 * (l + 1)) _ _ x0 (by rw [e2]; exact Int.mul_emod_left _ _) (by have : (2 : Int) ^ 62 = 4611686018427387904 := rfl; omega) y0 (by rw [e2]; exact y1) (by have : (2 : Int) ^ 62 = 4611686018427387904 := rfl; omega), eb]
theorem pk_le (now p : Int) (l : Nat) (K : Int) (hK : K = 64 ^ l) (h0 : 0 ≤ now) (hb : bg now l p < 4611686018427387904) : p * K < 4611686018427387904 := by
  subst hK
  have x0 : 0 ≤ pt (l + 1) now * 64 * 64 ^ l := Int.mul_nonneg (Int.mul_nonneg (pt_nn h0) (by omega)) (Int.le_of_lt (p64 l))
  unfold bg at hb
  rw [Int.add_mul] at hb
  omega
theorem begin_c (H : St w0 S0 w (WL m c bw now mb W T X)) (h0 : 0 ≤ now) (h1 : now < 4611686018427387904) (hs : s < 704) (hb : bgS now s < 4611686018427387904) :
    Calls Tryz.prog 159 #[.pointer (some ⟨c, 0, none⟩), .int .i64 ((s / 64 : Nat) : Int), .int .i64 ((s % 64 : Nat) : Int)] w fun e w' => e = .returned (.int .u64 (bgS now s)) ∧ St w0 S0 w' (WL m c bw now mb W T X) := by
  have c0 := wl_now H
  have HH := Lib.hid H
  unfold bgS at hb ⊢
  obtain ⟨l, hl⟩ : ∃ l, s / 64 = l := ⟨_, rfl⟩
  obtain ⟨p', hp⟩ : ∃ p, s % 64 = p := ⟨_, rfl⟩
  rw [hl, hp] at hb ⊢
  have l1 : l ≤ 10 := by omega
  obtain ⟨p, hp'⟩ : ∃ p : Int, (p' : Int) = p := ⟨_, rfl⟩
  rw [hp'] at hb ⊢
  have p0 : 0 ≤ p := by omega
  have p1 : p < 64 := by omega
  have HB := Lib.hid hb
  obtain ⟨li, hli⟩ : ∃ li : Int, (l : Int) = li := ⟨_, rfl⟩
  rw [hli]
  have hc : li = 0 ∨ li = 1 ∨ li = 2 ∨ li = 3 ∨ li = 4 ∨ li = 5 ∨ li = 6 ∨ li = 7 ∨ li = 8 ∨ li = 9 ∨ li = 10 := by omega
  have HLI := Lib.hid hli
  clear H hb hl hp hp' hli l1
  rcases hc with rfl | rfl | rfl | rfl | rfl | rfl | rfl | rfl | rfl | rfl | rfl
  · obtain rfl : l = 0 := by have := HLI.out; omega
    have ob := or_bg now p 0 64 1 rfl rfl h0 h1 p0 p1 HB.out
    have pk := pk_le now p 0 1 rfl h0 HB.out
    simp only [Int.mul_one] at ob
    go_enter Tryz.func159, Tryz.ntmps159
    go_wp2_with fail
    go_quiet (fail)
    go_wp2_with fail
    go_ret
    exact ⟨by first | rfl | exact congrArg (fun z => Ending.returned (Value.int IntKind.u64 z)) ob, HH.out.drewN _⟩
  · obtain rfl : l = 1 := by have := HLI.out; omega
    have ob := or_bg now p 1 4096 64 rfl rfl h0 h1 p0 p1 HB.out
    have pk := pk_le now p 1 64 rfl h0 HB.out
    go_enter Tryz.func159, Tryz.ntmps159
    go_wp2_with fail
    go_quiet (fail)
    go_wp2_with fail
    go_ret
    exact ⟨by first | rfl | exact congrArg (fun z => Ending.returned (Value.int IntKind.u64 z)) ob, HH.out.drewN _⟩
  · obtain rfl : l = 2 := by have := HLI.out; omega
    have ob := or_bg now p 2 262144 4096 rfl rfl h0 h1 p0 p1 HB.out
    have pk := pk_le now p 2 4096 rfl h0 HB.out
    go_enter Tryz.func159, Tryz.ntmps159
    go_wp2_with fail
    go_quiet (fail)
    go_wp2_with fail
    go_ret
    exact ⟨by first | rfl | exact congrArg (fun z => Ending.returned (Value.int IntKind.u64 z)) ob, HH.out.drewN _⟩
  · obtain rfl : l = 3 := by have := HLI.out; omega
    have ob := or_bg now p 3 16777216 262144 rfl rfl h0 h1 p0 p1 HB.out
    have pk := pk_le now p 3 262144 rfl h0 HB.out
    go_enter Tryz.func159, Tryz.ntmps159
    go_wp2_with fail
    go_quiet (fail)
    go_wp2_with fail
    go_ret
    exact ⟨by first | rfl | exact congrArg (fun z => Ending.returned (Value.int IntKind.u64 z)) ob, HH.out.drewN _⟩
  · obtain rfl : l = 4 := by have := HLI.out; omega
    have ob := or_bg now p 4 1073741824 16777216 rfl rfl h0 h1 p0 p1 HB.out
    have pk := pk_le now p 4 16777216 rfl h0 HB.out
    go_enter Tryz.func159, Tryz.ntmps159
    go_wp2_with fail
    go_quiet (fail)
    go_wp2_with fail
    go_ret
    exact ⟨by first | rfl | exact congrArg (fun z => Ending.returned (Value.int IntKind.u64 z)) ob, HH.out.drewN _⟩
  · obtain rfl : l = 5 := by have := HLI.out; omega
    have ob := or_bg now p 5 68719476736 1073741824 rfl rfl h0 h1 p0 p1 HB.out
    have pk := pk_le now p 5 1073741824 rfl h0 HB.out
    go_enter Tryz.func159, Tryz.ntmps159
    go_wp2_with fail
    go_quiet (fail)
    go_wp2_with fail
    go_ret
    exact ⟨by first | rfl | exact congrArg (fun z => Ending.returned (Value.int IntKind.u64 z)) ob, HH.out.drewN _⟩
  · obtain rfl : l = 6 := by have := HLI.out; omega
    have ob := or_bg now p 6 4398046511104 68719476736 rfl rfl h0 h1 p0 p1 HB.out
    have pk := pk_le now p 6 68719476736 rfl h0 HB.out
    go_enter Tryz.func159, Tryz.ntmps159
    go_wp2_with fail
    go_quiet (fail)
    go_wp2_with fail
    go_ret
    exact ⟨by first | rfl | exact congrArg (fun z => Ending.returned (Value.int IntKind.u64 z)) ob, HH.out.drewN _⟩
  · obtain rfl : l = 7 := by have := HLI.out; omega
    have ob := or_bg now p 7 281474976710656 4398046511104 rfl rfl h0 h1 p0 p1 HB.out
    have pk := pk_le now p 7 4398046511104 rfl h0 HB.out
    go_enter Tryz.func159, Tryz.ntmps159
    go_wp2_with fail
    go_quiet (fail)
    go_wp2_with fail
    go_ret
    exact ⟨by first | rfl | exact congrArg (fun z => Ending.returned (Value.int IntKind.u64 z)) ob, HH.out.drewN _⟩
  · obtain rfl : l = 8 := by have := HLI.out; omega
    have ob := or_bg now p 8 18014398509481984 281474976710656 rfl rfl h0 h1 p0 p1 HB.out
    have pk := pk_le now p 8 281474976710656 rfl h0 HB.out
    go_enter Tryz.func159, Tryz.ntmps159
    go_wp2_with fail
    go_quiet (fail)
    go_wp2_with fail
    go_ret
    exact ⟨by first | rfl | exact congrArg (fun z => Ending.returned (Value.int IntKind.u64 z)) ob, HH.out.drewN _⟩
  · obtain rfl : l = 9 := by have := HLI.out; omega
    have ob := or_bg now p 9 1152921504606846976 18014398509481984 rfl rfl h0 h1 p0 p1 HB.out
    have pk := pk_le now p 9 18014398509481984 rfl h0 HB.out
    go_enter Tryz.func159, Tryz.ntmps159
    go_wp2_with fail
    go_quiet (fail)
    go_wp2_with fail
    go_ret
    exact ⟨by first | rfl | exact congrArg (fun z => Ending.returned (Value.int IntKind.u64 z)) ob, HH.out.drewN _⟩
  · obtain rfl : l = 10 := by have := HLI.out; omega
    have ob := or_bg now p 10 73786976294838206464 1152921504606846976 rfl rfl h0 h1 p0 p1 HB.out
    have pk := pk_le now p 10 1152921504606846976 rfl h0 HB.out
    go_enter Tryz.func159, Tryz.ntmps159
    go_wp2_with fail
    go_quiet (fail)
    go_wp2_with fail
    go_ret
    rw [Int.ediv_eq_zero_of_lt h0 (by omega), Int.zero_mul] at ob
    refine ⟨?_, HH.out.drewN _⟩
    rw [Int.ediv_eq_zero_of_lt h0 (show now < 18446744073709551616 by omega), Int.zero_mul]
    exact congrArg (fun z => Ending.returned (Value.int IntKind.u64 z)) ob
end
end
section
set_option linter.unusedVariables false
set_option maxRecDepth 100000
set_option maxHeartbeats 2000000
/-- One more timer, or one less. -/
def updT (T : Int → Option Int) (i : Int) (v : Option Int) : Int → Option Int := fun j => if j = i then v else T j
theorem updT_same (T : Int → Option Int) (i : Int) (v : Option Int) : updT T i v i = v := if_pos rfl
theorem WV_upd (T : Int → Option Int) (i : Int) (v : Option Int) : WV (updT T i v) = updI (WV T) i (v.map fun a => .int .u64 a) := by
  funext j; unfold WV updT updI; split <;> rfl
theorem MS_put {T : Int → Option Int} {now i a : Int} {s : Nat} (h : SpS now a s) : MS (updT T i (some a)) now s = updI (MS T now s) i (some (.int .u64 a)) := by
  funext j; unfold MS updT updI
  by_cases e : j = i
  · simp only [if_pos e, if_pos h]
  · simp only [if_neg e]
theorem MS_put_other {T : Int → Option Int} {now i a : Int} {s s' : Nat} (h : SpS now a s) (hi : T i = none) (hs : s' ≠ s) : MS (updT T i (some a)) now s' = MS T now s' := by
  funext j; unfold MS updT
  by_cases e : j = i
  · subst e
    rw [if_pos rfl, hi]
    exact if_neg fun h' => hs (SpS.one h' h)
  · simp only [if_neg e]
theorem MS_del (T : Int → Option Int) (now i : Int) (s : Nat) : MS (updT T i none) now s = updI (MS T now s) i none := by
  funext j; unfold MS updT updI
  by_cases e : j = i
  · simp only [if_pos e]
  · simp only [if_neg e]
theorem MS_del_other {T : Int → Option Int} {now i a : Int} {s s' : Nat} (h : SpS now a s) (hi : T i = some a) (hs : s' ≠ s) : MS (updT T i none) now s' = MS T now s' := by
  funext j; unfold MS updT
  by_cases e : j = i
  · subst e
    rw [if_pos rfl, hi]
    exact (if_neg fun h' => hs (SpS.one h' h)).symm
  · simp only [if_neg e]
theorem MS_at {T : Int → Option Int} {now i a : Int} {s : Nat} (h : SpS now a s) (hi : T i = some a) : MS T now s i = some (.int .u64 a) := by unfold MS; simp only [hi, if_pos h]
theorem MS_inv {T : Int → Option Int} {now i : Int} {s : Nat} {v : Value} (h : MS T now s i = some v) : ∃ a, T i = some a ∧ SpS now a s ∧ v = .int .u64 a := by
  unfold MS at h
  cases hT : T i with
  | none => rw [hT] at h; cases h
  | some a =>
    rw [hT] at h
    dsimp only at h
    split at h
    · rename_i hs; injection h with h; exact ⟨a, rfl, hs, h.symm⟩
    · cases h
/-- All timers have small numbers and lie ahead. -/
structure TOK (now : Int) (T : Int → Option Int) : Prop where
  n0 : 0 ≤ now
  n1 : now < 4611686018427387904
  t : ∀ i a, T i = some a → 0 ≤ i ∧ i < 1000 ∧ now < a ∧ a < 4611686018427387904
def WG (m c bw : Nat) (V : Nat → Value) (W : Int → Option Int) (F : Nat → Res) (X : List Res) : List Res :=
  ([ArrR c 267 706 V, OptM Tryz.prog 3 (some bw) (WV W)] ++ (List.range m).map F) ++ X
section
variable {w0 w w' : World} {S0 S : Nat → Prop} {L X : List Res} {m c bw s b : Nat} {now at' id : Int} {mb mb' : Nat → Option Nat} {W W' T T' : Int → Option Int} {V V' : Nat → Value} {F F' : Nat → Res}
theorem wg_s {R : Res} (hs : s < m) : (WG m c bw V W F X).set (2 + s) R = WG m c bw V W (fun j => if j = s then R else F j) X := by
  unfold WG
  rw [List.set_append_left _ _ (by simp; omega)]
  congr 1
  exact fam_set [_, _] F R hs
theorem wg_like (h : ∀ j, j < m → F j = F' j) : WG m c bw V W F X = WG m c bw V W F' X := by unfold WG; rw [fam_like h]
theorem wg_len : (WG m c bw V W F X).length = 2 + m + X.length := by unfold WG; simp; omega
/-- A new wheel's parts as they are now. -/
theorem wl_of (h : St w0 S0 w (WG m c bw V W F X)) (hV : ∀ j, j < 706 → wv now bw mb j = V j) (hF : ∀ j, j < m → F j = OptM Tryz.prog 3 (mb j) (MS T now j)) : St w0 S0 w (WL m c bw now mb W T X) := by
  rw [wg_like hF] at h
  exact h.arr_like 0 rfl hV
def updN (f : Nat → Option Nat) (i : Nat) (x : Option Nat) : Nat → Option Nat := fun j => if j = i then x else f j
theorem wv_upd (hs : s < 704) (o : Option Nat) : ∀ j, j < 706 → wv now bw (updN mb s o) j = if j = 2 + s then .map o else wv now bw mb j := fun j hj => by
  unfold wv updN
  by_cases e0 : j = 0
  · rw [if_pos e0, if_neg (by omega), if_pos e0]
  · by_cases e1 : j = 1
    · rw [if_neg e0, if_pos e1, if_neg (by omega), if_neg e0, if_pos e1]
    · rw [if_neg e0, if_neg e1, if_neg e0, if_neg e1]
      by_cases e2 : j = 2 + s
      · rw [if_pos e2, if_pos (by omega)]
      · rw [if_neg e2, if_neg (by omega)]
theorem wv_now (n' : Int) : ∀ j, j < 706 → wv n' bw mb j = if j = 0 then .int .u64 n' else wv now bw mb j := fun j hj => by
  unfold wv
  by_cases e0 : j = 0
  · rw [if_pos e0, if_pos e0]
  · rw [if_neg e0, if_neg e0, if_neg e0]
/-- A place gets a map. -/
theorem wl_fresh (H : St w0 S0 w (WL m c bw now mb W T X)) (hs : s < m) (hm : m = 704) (hn : mb s = none) : St w0 S0 ((w.alloc (.map #[] 0)).setCell ⟨c, 2 + s, none⟩ (.map (some w.heap.size))) (WL m c bw now (updN mb s (some w.heap.size)) W T X) := by
  have he : ∀ i, MS T now s i = none := by
    have h2 := wl_s (now := now) (c := c) (bw := bw) (mb := mb) (W := W) (T := T) (X := X) hs
    rw [hn] at h2
    exact H.optm_none _ h2
  have h1 := (H.optm_new Tryz.prog 3).place (q := 2 + s) (by show _ < (WG m c bw (wv now bw mb) W (fun s => OptM Tryz.prog 3 (mb s) (MS T now s)) X).length; rw [wg_len]; omega)
  have h2 : St w0 S0 (w.alloc (.map #[] 0)) (WG m c bw (wv now bw mb) W (fun j => if j = s then OptM Tryz.prog 3 (some w.heap.size) (fun _ => none) else OptM Tryz.prog 3 (mb j) (MS T now j)) X) := by
    rw [← wg_s hs]; exact h1
  have h3 := h2.arr_set 0 rfl (show 2 + s < 706 by omega) (.map (some w.heap.size))
  refine wl_of (V := fun j => if j = 2 + s then .map (some w.heap.size) else wv now bw mb j) h3 (wv_upd (by omega) _) fun j hj => ?_
  unfold updN
  by_cases e : j = s
  · rw [if_pos e, if_pos e, e, funext he]
  · rw [if_neg e, if_neg e]
/-- A timer is laid in its place, which has a map. -/
theorem wl_put (H : St w0 S0 w (WL m c bw now mb W T X)) (hs : s < m) (hb : mb s = some b) (hp : SpS now at' s) (hT : T id = none) (hm : MapN w' Tryz.prog 3 b (updI (MS T now s) id (some (.int .u64 at')))) (hg : w.grownBy w' (some b)) : St w0 S0 w' (WL m c bw now mb W (updT T id (some at')) X) := by
  have h2 := wl_s (now := now) (c := c) (bw := bw) (mb := mb) (W := W) (T := T) (X := X) hs
  rw [hb] at h2
  have h3 := H.optm_turn _ h2 hm hg
  have h4 : St w0 S0 w' (WG m c bw (wv now bw mb) W (fun j => if j = s then OptM Tryz.prog 3 (some b) (updI (MS T now s) id (some (.int .u64 at'))) else OptM Tryz.prog 3 (mb j) (MS T now j)) X) := by
    rw [← wg_s hs]; exact h3
  refine wl_of h4 (fun j hj => rfl) fun j hj => ?_
  by_cases e : j = s
  · rw [if_pos e, e, hb, MS_put hp]
  · rw [if_neg e, MS_put_other hp hT e]
/-- A timer is taken out of its place. -/
theorem wl_del (H : St w0 S0 w (WL m c bw now mb W T X)) (hs : s < m) (hb : mb s = some b) (hp : SpS now at' s) (hT : T id = some at') (hm : MapN w' Tryz.prog 3 b (updI (MS T now s) id none)) (hg : w.grownBy w' (some b)) : St w0 S0 w' (WL m c bw now mb W (updT T id none) X) := by
  have h2 := wl_s (now := now) (c := c) (bw := bw) (mb := mb) (W := W) (T := T) (X := X) hs
  rw [hb] at h2
  have h3 := H.optm_turn _ h2 hm hg
  have h4 : St w0 S0 w' (WG m c bw (wv now bw mb) W (fun j => if j = s then OptM Tryz.prog 3 (some b) (updI (MS T now s) id none) else OptM Tryz.prog 3 (mb j) (MS T now j)) X) := by
    rw [← wg_s hs]; exact h3
  refine wl_of h4 (fun j hj => rfl) fun j hj => ?_
  by_cases e : j = s
  · rw [if_pos e, e, hb, MS_del]
  · rw [if_neg e, MS_del_other hp hT e]
theorem wl_when_turn (H : St w0 S0 w (WL m c bw now mb W T X)) {v : Option Int} (hm : MapN w' Tryz.prog 3 bw (updI (WV W) id (v.map fun a => .int .u64 a))) (hg : w.grownBy w' (some bw)) : St w0 S0 w' (WL m c bw now mb (updT W id v) T X) := by
  rw [← WV_upd] at hm
  exact H.optm_turn 1 wl_1 hm hg
theorem wl_mapn (H : St w0 S0 w (WL m c bw now mb W T X)) (hs : s < m) (hb : mb s = some b) : MapN w Tryz.prog 3 b (MS T now s) := by
  have h2 := wl_s (now := now) (c := c) (bw := bw) (mb := mb) (W := W) (T := T) (X := X) hs
  rw [hb] at h2
  exact H.optm _ h2
theorem wl_empty (H : St w0 S0 w (WL m c bw now mb W T X)) (hs : s < m) (hb : mb s = none) : ∀ i, MS T now s i = none := by
  have h2 := wl_s (now := now) (c := c) (bw := bw) (mb := mb) (W := W) (T := T) (X := X) hs
  rw [hb] at h2
  exact H.optm_none _ h2
theorem wl_whenn (H : St w0 S0 w (WL m c bw now mb W T X)) : MapN w Tryz.prog 3 bw (WV W) := H.optm 1 wl_1
theorem zero_u64 (w : World) : (zeroValue 34).run Tryz.prog w = .ok (.int .u64 0) w := by kernel_rfl
theorem when_look (H : St w0 S0 w (WL m c bw now mb W T X)) (hi : wfI id) : (Instr.lookup 262 (.map (some bw)) (.int .i64 id) true).run Tryz.prog w = .ok (.tuple #[.int .u64 ((W id).getD 0), .bool (W id).isSome]) w := by
  have h := (wl_whenn H).mapi.look Tryz.underlying3 Tryz.underlying262 (zero_u64 w) hi
  rw [h]
  unfold WV
  cases W id <;> rfl
theorem when_look1 (H : St w0 S0 w (WL m c bw now mb W T X)) (hi : wfI id) : (Instr.lookup 262 (.map (some bw)) (.int .i64 id) false).run Tryz.prog w = .ok (.int .u64 ((W id).getD 0)) w := by
  have h := (wl_whenn H).mapi.look1 Tryz.underlying3 Tryz.underlying262 (zero_u64 w) hi
  rw [h]
  unfold WV
  cases W id <;> rfl
theorem Now_c (H : St w0 S0 w (WL m c bw now mb W T X)) : Calls Tryz.prog 104 #[.pointer (some ⟨c, 0, none⟩)] w fun e w' => e = .returned (.int .u64 now) ∧ St w0 S0 w' (WL m c bw now mb W T X) := by
  have c0 := wl_now H
  have HH := Lib.hid H
  clear H
  go_enter Tryz.func104, Tryz.ntmps104
  go_wp2_with fail
  go_ret
  exact ⟨rfl, HH.out⟩
/-- The first place in which something lies. -/
theorem next_c (H : St w0 S0 w (WL 704 c bw now mb W T X)) :
    Calls Tryz.prog 158 #[.pointer (some ⟨c, 0, none⟩)] w fun e w' => St w0 S0 w' (WL 704 c bw now mb W T X) ∧
      ((∃ s : Nat, s < 704 ∧ e = .returned (.tuple #[.int .i64 ((s / 64 : Nat) : Int), .int .i64 ((s % 64 : Nat) : Int), .bool true]) ∧ (∃ i, (MS T now s i).isSome = true) ∧ ∀ s', s' < s → ∀ i, MS T now s' i = none) ∨
       (e = .returned (.tuple #[.int .i64 0, .int .i64 0, .bool false]) ∧ ∀ s', s' < 704 → ∀ i, MS T now s' i = none)) := by
  go_enter Tryz.func158, Tryz.ntmps158
  go_wp2_with fail
  go_loopw [7] (fun x wr => ∃ l : Nat, l ≤ 11 ∧ x = .int .i64 l ∧ St w0 S0 wr (WL 704 c bw now mb W T X) ∧ ∀ s', s' < l * 64 → ∀ i, MS T now s' i = none) (fun x _ => 11 - (intOf x).toNat)
  case atStart => exact ⟨0, by omega, rfl, H, fun s' h => by omega⟩
  case round =>
    clear H
    obtain ⟨l, hl, rfl, sr, he⟩ := hrel
    by_cases hlt : l < 11
    · have d1 : decide ((l : Int) < 11) = true := decide_eq_true (by omega)
      have l0 : (0 : Int) ≤ (l : Int) := by omega
      have l1 : (l : Int) < 11 := by omega
      have HE := Lib.hid he
      have SR := Lib.hid sr
      clear sr he
      go_wp2_with fail
      have sr := SR.out
      go_loopw [10] (fun x wr => ∃ p : Nat, p ≤ 64 ∧ x = .int .i64 p ∧ St w0 S0 wr (WL 704 c bw now mb W T X) ∧ ∀ s', s' < l * 64 + p → ∀ i, MS T now s' i = none) (fun x _ => 64 - (intOf x).toNat)
      case atStart => exact ⟨0, by omega, rfl, sr, HE.out⟩
      case round =>
        clear sr SR HE
        obtain ⟨p, hp, rfl, sr, he⟩ := hrel
        by_cases hpt : p < 64
        · have d2 : decide ((p : Int) < 64) = true := decide_eq_true (by omega)
          have p0 : (0 : Int) ≤ (p : Int) := by omega
          have p1 : (p : Int) < 64 := by omega
          have hs704 : l * 64 + p < 704 := by omega
          have cs := wl_cell sr hs704
          rw [← Nat.add_assoc] at cs
          have HE := Lib.hid he
          have SR := Lib.hid sr
          cases hb : mb (l * 64 + p) with
          | none =>
            have EM := Lib.hid (wl_empty sr hs704 hb)
            rw [hb] at cs
            clear sr he hb
            go_wp2_with fail
            go_roundw
            case rel => exact ⟨p + 1, by omega, by go_num, SR.out, fun s' h => by
              by_cases e : s' = l * 64 + p
              · rw [e]; exact EM.out
              · exact HE.out s' (by omega)⟩
            case measure => simp [intOf]; omega
          | some b =>
            rw [hb] at cs
            have MN := Lib.hid (wl_mapn sr hs704 hb)
            have ln := fun ty => MN.out.len Tryz.underlying262 ty
            obtain ⟨q, hq⟩ : ∃ q, cnt (MS T now (l * 64 + p)) = q := ⟨_, rfl⟩
            rw [hq] at ln
            have HQ := Lib.hid hq
            clear sr he hb hq
            by_cases hq0 : q = 0
            · have d3 : decide (0 < (q : Int)) = false := decide_eq_false (by omega)
              have d4 : decide (0 < q) = false := decide_eq_false (by omega)
              go_wp2_with fail
              go_roundw
              case rel => exact ⟨p + 1, by omega, by go_num, SR.out, fun s' h => by
                by_cases e : s' = l * 64 + p
                · rw [e]; exact cnt_zero MN.out.2 (HQ.out.trans hq0)
                · exact HE.out s' (by omega)⟩
              case measure => simp [intOf]; omega
            · have d3 : decide (0 < (q : Int)) = true := decide_eq_true (by omega)
              have d4 : decide (0 < q) = true := decide_eq_true (by omega)
              go_wp2_with fail
              refine bodyPost_ret (v := .tuple #[.int .i64 l, .int .i64 p, .bool true]) ?_ rfl ⟨SR.out, Or.inl ⟨l * 64 + p, hs704, ?_, ?_, HE.out⟩⟩
              · simp [results, go_sem]
              · rw [show (l * 64 + p) / 64 = l by omega, show (l * 64 + p) % 64 = p by omega]
              · apply Classical.byContradiction
                intro hno
                refine hq0 (HQ.out.symm.trans (cnt_pos fun i => ?_))
                cases hi : MS T now (l * 64 + p) i with
                | none => rfl
                | some v => exact absurd ⟨i, by rw [hi]; rfl⟩ hno
        · obtain rfl : p = 64 := by omega
          go_wp2_with fail
          go_roundw
          case rel => exact ⟨l + 1, by omega, by go_num, sr, fun s' h => he s' (by omega)⟩
          case measure => simp [intOf]; omega
    · obtain rfl : l = 11 := by omega
      have SR := Lib.hid sr
      have HE := Lib.hid he
      clear sr he
      go_wp2_with fail
      refine bodyPost_ret (v := .tuple #[.int .i64 0, .int .i64 0, .bool false]) ?_ rfl ⟨SR.out, Or.inr ⟨rfl, HE.out⟩⟩
      simp [results, go_sem]
end
end
section
set_option linter.unusedVariables false
set_option maxRecDepth 100000
set_option maxHeartbeats 2000000
section
variable {w0 w w' : World} {S0 S : Nat → Prop} {L X : List Res} {m c bw s b : Nat} {now at' id : Int} {mb mb' : Nat → Option Nat} {W W' T T' : Int → Option Int}
theorem ea (s : Nat) : 2 + s / 64 * 64 + s % 64 = 2 + s := by omega
theorem mnil_yes (W : World) : (binOp .eql 262 (.map none) (.map none)).run Tryz.prog W = .ok (.bool true) W := by rfl
theorem mnil_no (b : Nat) (W : World) : (binOp .eql 262 (.map (some b)) (.map none)).run Tryz.prog W = .ok (.bool false) W := by rfl
theorem may_any (t : Int) (w : World) : Calls Tryz.prog 102 #[.int .u64 t] w fun e w' => e = .returned (.bool (decide (t < 4611686018427387904))) ∧ w = w' := by
  go_enter Tryz.func102, Tryz.ntmps102
  go_wp2_with fail
  go_ret
  exact ⟨by simp, rfl⟩
theorem lay_c (H : St w0 S0 w (WL 704 c bw now mb W T X)) (h0 : 0 ≤ now) (h1 : now < at') (h2 : at' < 4611686018427387904) (i0 : 0 ≤ id) (i1 : id < 1000) (hT : T id = none) :
    Calls Tryz.prog 148 #[.pointer (some ⟨c, 0, none⟩), .int .i64 id, .int .u64 at'] w fun e w' => e = .returned (.tuple #[]) ∧ ∃ mb', St w0 S0 w' (WL 704 c bw now mb' (updT W id (some at')) (updT T id (some at')) X) := by
  have SC := Lib.hid (spot_c H h0 h1 h2)
  have HT := Lib.hid hT
  clear H hT
  go_enter Tryz.func148, Tryz.ntmps148
  go_wp2_with fail
  refine SC.out.mono ?_
  rintro e w2 ⟨s, hs, hsp, rfl, s2⟩
  have HSP := Lib.hid hsp
  have cs := wl_cell s2 hs
  rw [← ea] at cs
  have q0 : (0 : Int) ≤ ((s / 64 : Nat) : Int) := by omega
  have q1 : ((s / 64 : Nat) : Int) < 11 := by omega
  have q2 : (0 : Int) ≤ ((s % 64 : Nat) : Int) := by omega
  have q3 : ((s % 64 : Nat) : Int) < 64 := by omega
  clear hsp SC
  cases hb : mb s with
  | none =>
    rw [hb] at cs
    obtain ⟨g, hg⟩ : ∃ g, w2.heap.size = g := ⟨_, rfl⟩
    have s3 := wl_fresh s2 hs rfl hb
    rw [hg, ← ea] at s3
    have f2 : (w2.alloc (.map #[] 0)).frozen? ⟨c, 2 + s / 64 * 64 + s % 64, none⟩ = false := (s2.alloc _).arr_frozen 0 wl_0 _
    have cs2 : (w2.alloc (.map #[] 0)).cell? ⟨c, 2 + s / 64 * 64 + s % 64, none⟩ = some (.map none) := by
      have := wl_cell (s2.alloc (.map #[] 0)) hs
      rw [← ea, hb] at this; exact this
    have cs3 := wl_cell s3 hs
    have cw3 := wl_when s3
    rw [ea] at cs3
    have MN := Lib.hid (wl_mapn s3 hs (b := g) (by unfold updN; rw [if_pos rfl]))
    have S3 := Lib.hid s3
    have yes := mnil_yes
    have hmm := @run_makeMap Tryz.prog
    have HG := Lib.hid (show updN mb s (some g) s = some g by unfold updN; rw [if_pos rfl])
    clear s2 s3 hb
    go_wp2_with (first
      | (at_mapUpdate; refine wpList_mapN_put rfl _ _ _ 262 rfl 3 34 Tryz.underlying3 Tryz.underlying262 g (MS T now s) rfl MN.out id i0 i1 (.int .u64 at') rfl rfl ?_; intro w3 hm3 hg3; have s3 := wl_put S3.out hs HG.out HSP.out HT.out hm3 hg3; have MW := Lib.hid (wl_whenn s3); have c3 := wl_when s3; have S4 := Lib.hid s3; clear hm3 hg3 s3 MN S3)
      | (at_mapUpdate; refine wpList_mapN_put rfl _ _ _ 262 rfl 3 34 Tryz.underlying3 Tryz.underlying262 bw (WV W) rfl MW.out id i0 i1 (.int .u64 at') rfl rfl ?_; intro w4 hm4 hg4; have S5 := Lib.hid (wl_when_turn (v := some at') S4.out hm4 hg4); clear hm4 hg4 S4)
      | fail)
    go_end0
    exact ⟨rfl, _, S5.out⟩
  | some b =>
    rw [hb] at cs
    have MN := Lib.hid (wl_mapn s2 hs hb)
    have S2 := Lib.hid s2
    have HB := Lib.hid hb
    have no := mnil_no b
    clear s2 hb
    go_wp2_with (first
      | (at_mapUpdate; refine wpList_mapN_put rfl _ _ _ 262 rfl 3 34 Tryz.underlying3 Tryz.underlying262 b (MS T now s) rfl MN.out id i0 i1 (.int .u64 at') rfl rfl ?_; intro w3 hm3 hg3; have s3 := wl_put S2.out hs HB.out HSP.out HT.out hm3 hg3; have MW := Lib.hid (wl_whenn s3); have c3 := wl_when s3; have S3 := Lib.hid s3; clear hm3 hg3 s3 MN S2)
      | (at_mapUpdate; refine wpList_mapN_put rfl _ _ _ 262 rfl 3 34 Tryz.underlying3 Tryz.underlying262 bw (WV W) rfl MW.out id i0 i1 (.int .u64 at') rfl rfl ?_; intro w4 hm4 hg4; have S4 := Lib.hid (wl_when_turn (v := some at') S3.out hm4 hg4); clear hm4 hg4 S3)
      | fail)
    go_end0
    exact ⟨rfl, _, S4.out⟩
theorem updT_twice (T : Int → Option Int) (i : Int) (u v : Option Int) : updT (updT T i u) i v = updT T i v := by
  funext j; unfold updT; by_cases e : j = i
  · rw [if_pos e, if_pos e]
  · rw [if_neg e, if_neg e, if_neg e]
theorem updT_none {T : Int → Option Int} {i : Int} (h : T i = none) : updT T i none = T := by
  funext j; unfold updT; by_cases e : j = i
  · rw [if_pos e, e, h]
  · rw [if_neg e]
theorem Cancel_c (H : St w0 S0 w (WL 704 c bw now mb T T X)) (ok : TOK now T) (hi : wfI id) :
    Calls Tryz.prog 147 #[.pointer (some ⟨c, 0, none⟩), .int .i64 id] w fun e w' => e = .returned (.int .i64 (if (T id).isSome = true then 0 else 6)) ∧ St w0 S0 w' (WL 704 c bw now mb (updT T id none) (updT T id none) X) := by
  have c1 := wl_when H
  have lk := when_look H hi
  cases hT : T id with
  | none =>
    rw [hT] at lk
    simp only [Option.getD_none, Option.isSome_none] at lk
    rw [updT_none hT]
    have HH := Lib.hid H
    clear H hT
    go_enter Tryz.func147, Tryz.ntmps147
    go_wp2_with fail
    go_ret
    exact ⟨rfl, HH.out⟩
  | some a =>
    rw [hT] at lk
    simp only [Option.getD_some, Option.isSome_some] at lk
    obtain ⟨i0, i1, a0, a1⟩ := ok.t id a hT
    have SC := Lib.hid (spot_c H ok.n0 a0 a1)
    have HT := Lib.hid hT
    clear H hT
    go_enter Tryz.func147, Tryz.ntmps147
    go_wp2_with fail
    refine SC.out.mono ?_
    rintro e w2 ⟨s, hs, hsp, rfl, s2⟩
    have HSP := Lib.hid hsp
    have cs := wl_cell s2 hs
    rw [← ea] at cs
    have q0 : (0 : Int) ≤ ((s / 64 : Nat) : Int) := by omega
    have q1 : ((s / 64 : Nat) : Int) < 11 := by omega
    have q2 : (0 : Int) ≤ ((s % 64 : Nat) : Int) := by omega
    have q3 : ((s % 64 : Nat) : Int) < 64 := by omega
    obtain ⟨b, hb⟩ : ∃ b, mb s = some b := by
      cases hb : mb s with
      | none => have := wl_empty s2 hs hb id; rw [MS_at hsp HT.out] at this; cases this
      | some b => exact ⟨b, rfl⟩
    rw [hb] at cs
    have MN := Lib.hid (wl_mapn s2 hs hb)
    have S2 := Lib.hid s2
    have HB := Lib.hid hb
    clear s2 hb hsp SC c1 lk
    go_wp2_with (first
      | (at_delete; refine wpList_mapN_del rfl _ _ 262 3 rfl 34 Tryz.underlying3 Tryz.underlying262 b (MS T now s) rfl MN.out id i0 i1 rfl ?_; intro w3 hm3 hg3; have s3 := wl_del S2.out hs HB.out HSP.out HT.out hm3 hg3; have MW := Lib.hid (wl_whenn s3); have c3 := wl_when s3; have S3 := Lib.hid s3; clear hm3 hg3 s3 MN S2)
      | (at_delete; refine wpList_mapN_del rfl _ _ 262 3 rfl 34 Tryz.underlying3 Tryz.underlying262 bw (WV T) rfl MW.out id i0 i1 rfl ?_; intro w4 hm4 hg4; have S4 := Lib.hid (wl_when_turn (v := none) S3.out hm4 hg4); clear hm4 hg4 S3)
      | fail)
    go_ret
    exact ⟨rfl, S4.out⟩
theorem TOK.del (ok : TOK now T) (i : Int) : TOK now (updT T i none) := ⟨ok.n0, ok.n1, fun j a h => by
  unfold updT at h
  by_cases e : j = i
  · rw [if_pos e] at h; cases h
  · rw [if_neg e] at h; exact ok.t j a h⟩
theorem TOK.put (ok : TOK now T) {i a : Int} (i0 : 0 ≤ i) (i1 : i < 1000) (h1 : now < a) (h2 : a < 4611686018427387904) : TOK now (updT T i (some a)) := ⟨ok.n0, ok.n1, fun j x h => by
  unfold updT at h
  by_cases e : j = i
  · rw [if_pos e] at h; injection h with h; subst h; rw [e]; exact ⟨i0, i1, h1, h2⟩
  · rw [if_neg e] at h; exact ok.t j x h⟩
/-- What a Set answers. -/
def setA (now id at' : Int) : Int := if id < 0 ∨ 1000 ≤ id ∨ at' ≤ now then 1 else if at' < 4611686018427387904 then 0 else 2
def setT (now : Int) (T : Int → Option Int) (id at' : Int) : Int → Option Int := if setA now id at' = 0 then updT T id (some at') else T
theorem setT_ok (ok : TOK now T) (id at' : Int) : TOK now (setT now T id at') := by
  unfold setT
  split
  · rename_i h
    unfold setA at h
    split at h
    · cases h
    · split at h
      · exact ok.put (by omega) (by omega) (by omega) (by omega)
      · cases h
  · exact ok
theorem Set_c (H : St w0 S0 w (WL 704 c bw now mb T T X)) (ok : TOK now T) (ha : 0 ≤ at') :
    Calls Tryz.prog 106 #[.pointer (some ⟨c, 0, none⟩), .int .i64 id, .int .u64 at'] w fun e w' => e = .returned (.int .i64 (setA now id at')) ∧ ∃ mb', St w0 S0 w' (WL 704 c bw now mb' (setT now T id at') (setT now T id at') X) := by
  have c0 := wl_now H
  by_cases h1 : id < 0
  · have d1 : decide (id < 0) = true := decide_eq_true h1
    have e1 : setA now id at' = 1 := by unfold setA; rw [if_pos (Or.inl h1)]
    have e2 : setT now T id at' = T := by unfold setT; rw [e1]; rfl
    rw [e1, e2]
    have HH := Lib.hid H
    clear H e1 e2 h1
    go_enter Tryz.func106, Tryz.ntmps106
    go_wp2_with fail
    go_ret
    exact ⟨rfl, _, HH.out⟩
  have d1 : decide (id < 0) = false := decide_eq_false h1
  by_cases h2 : 1000 ≤ id
  · have d2 : decide (1000 ≤ id) = true := decide_eq_true h2
    have e1 : setA now id at' = 1 := by unfold setA; rw [if_pos (Or.inr (Or.inl h2))]
    have e2 : setT now T id at' = T := by unfold setT; rw [e1]; rfl
    rw [e1, e2]
    have HH := Lib.hid H
    clear H e1 e2 h1 h2
    go_enter Tryz.func106, Tryz.ntmps106
    go_wp2_with fail
    go_ret
    exact ⟨rfl, _, HH.out⟩
  have d2 : decide (1000 ≤ id) = false := decide_eq_false h2
  by_cases h3 : at' ≤ now
  · have d3 : decide (at' ≤ now) = true := decide_eq_true h3
    have e1 : setA now id at' = 1 := by unfold setA; rw [if_pos (Or.inr (Or.inr h3))]
    have e2 : setT now T id at' = T := by unfold setT; rw [e1]; rfl
    rw [e1, e2]
    have HH := Lib.hid H
    clear H e1 e2 h1 h2 h3
    go_enter Tryz.func106, Tryz.ntmps106
    go_wp2_with fail
    go_ret
    exact ⟨rfl, _, HH.out⟩
  have d3 : decide (at' ≤ now) = false := decide_eq_false h3
  by_cases h4 : at' < 4611686018427387904
  · have d4 : decide (at' < 4611686018427387904) = true := decide_eq_true h4
    have e1 : setA now id at' = 0 := by unfold setA; rw [if_neg (by omega), if_pos h4]
    have e2 : setT now T id at' = updT (updT T id none) id (some at') := by unfold setT; rw [e1, updT_twice]; rfl
    rw [e1, e2]
    obtain ⟨ck, hck⟩ : ∃ ck : Int, (if (T id).isSome = true then (0 : Int) else 6) = ck := ⟨_, rfl⟩
    have cc := fun (w : World) (h : St w0 S0 w (WL 704 c bw now mb T T X)) => Cancel_c h ok (dom_wf (i := id) (by omega) (by omega))
    simp only [hck] at cc
    have CC := Lib.hid cc
    clear cc hck
    have HN := Lib.hid ok.n0
    have HH := Lib.hid H
    have MY := Lib.hid (fun w => may_any at' w)
    have L0 : 0 ≤ id := by omega
    have L1 : id < 1000 := by omega
    have L2 : now < at' := by omega
    clear H e1 e2 h1 h2 h3
    go_enter Tryz.func106, Tryz.ntmps106
    go_wp2_with fail
    refine (MY.out _).mono ?_
    rintro e w2 ⟨rfl, rfl⟩
    go_wp2_with fail
    refine (CC.out _ HH.out).mono ?_
    rintro e w3 ⟨rfl, s3⟩
    have S3 := Lib.hid s3
    clear s3
    go_wp2_with fail
    refine (lay_c S3.out HN.out L2 h4 L0 L1 (updT_same _ _ _)).mono ?_
    rintro e w4 ⟨rfl, mb4, s4⟩
    have S4 := Lib.hid s4
    clear s4
    go_wp2_with fail
    go_ret
    exact ⟨rfl, mb4, S4.out⟩
  · have d4 : decide (at' < 4611686018427387904) = false := decide_eq_false h4
    have e1 : setA now id at' = 2 := by unfold setA; rw [if_neg (by omega), if_neg h4]
    have e2 : setT now T id at' = T := by unfold setT; rw [e1]; rfl
    rw [e1, e2]
    have HH := Lib.hid H
    have MY := Lib.hid (fun w => may_any at' w)
    clear H e1 e2 h1 h2 h3 h4
    go_enter Tryz.func106, Tryz.ntmps106
    go_wp2_with fail
    refine (MY.out _).mono ?_
    rintro e w2 ⟨rfl, rfl⟩
    go_wp2_with fail
    go_ret
    exact ⟨rfl, _, HH.out⟩
end
end
section
set_option linter.unusedVariables false
set_option maxRecDepth 100000
set_option maxHeartbeats 2000000
def wZ : Array Value := ((List.range 706).map fun k => if k = 0 then Value.int .u64 0 else .map none).toArray
theorem zero_w (w : World) : (zeroValue 267).run Tryz.prog w = .ok (.agg wZ) w := by kernel_rfl
theorem YtdjhpdacglojaaaGreatiI : (Tryz.prog.info? 3).map (fun i => (i.zero, i.size, i.bytes)) = some (some (.int .i64 0), 1, 8) := by kernel_rfl
/-- A map that is gone over: the iterator lies in block r. -/
def ItM (P : Program) (k : TypeId) (b r n : Nat) (M : Int → Option Value) (left : Int → Bool) (cnt : Nat) : Res := fun w S => IterI w P k b r n M left cnt ∧ MapN w P k b M ∧ b ≠ r ∧ ∀ x, S x ↔ (x = b ∨ x = r)
theorem ItM.ok (P : Program) (k : TypeId) (b r n : Nat) (M : Int → Option Value) (left : Int → Bool) (cnt : Nat) : Ok (ItM P k b r n M left cnt) :=
  ⟨fun ⟨h, m, _, hs⟩ x hx => by
    rcases (hs x).1 hx with rfl | rfl
    · exact m.lt
    · exact h.lt,
   fun ⟨h, m, e, hs⟩ hk => ⟨h.keep (hk b ((hs b).2 (Or.inl rfl))) (hk r ((hs r).2 (Or.inr rfl))), m.keep (hk b ((hs b).2 (Or.inl rfl))), e, hs⟩⟩
section
variable {w0 w w' : World} {S0 S : Nat → Prop} {L X : List Res} {P : Program} {k : TypeId} {m c bw s b r n : Nat} {now at' id : Int} {mb mb' : Nat → Option Nat} {W W' T T' : Int → Option Int} {M M' : Int → Option Value} {left left' : Int → Bool} {cnt0 cnt1 : Nat} {V V' : Nat → Value} {F F' : Nat → Res}
theorem St.it_start (h : St w0 S0 w L) (i : Nat) (hi : L[i]? = some (OptM P k (some b) M)) (hit : IterI w' P k b w.heap.size n M left cnt0) (hg : w.grownBy w' none) : St w0 S0 w' (L.set i (ItM P k b w.heap.size n M left cnt0)) :=
  h.turn hi (ItM.ok _ _ _ _ _ _ _ _) fun T ⟨hm, hT⟩ => ⟨fun x => x = b ∨ x = w.heap.size, ⟨hit, hm.keep (hg.block b hm.lt (by simp)), by have := hm.lt; omega, fun x => Iff.rfl⟩,
    ⟨hg.os, hg.tape, hg.output, hg.size, fun j hj hn => hg.block j hj (by simp), fun x hx => by
      rcases hx with rfl | rfl
      · exact Or.inl ((hT _).2 rfl)
      · exact Or.inr (Nat.le_refl _)⟩⟩
theorem St.it_get (h : St w0 S0 w L) (i : Nat) (hi : L[i]? = some (ItM P k b r n M left cnt0)) : IterI w P k b r n M left cnt0 := by obtain ⟨S, hb, _⟩ := h.get i hi; exact hb
theorem St.it_next (h : St w0 S0 w L) (i : Nat) (hi : L[i]? = some (ItM P k b r n M left cnt0)) (hit : IterI w' P k b r n M left' cnt1) (hg : w.grownBy w' (some r)) : St w0 S0 w' (L.set i (ItM P k b r n M left' cnt1)) :=
  h.turn hi (ItM.ok _ _ _ _ _ _ _ _) fun T ⟨_, hm, he, hT⟩ => ⟨T, ⟨hit, hm.keep (hg.block b hm.lt fun e => he (by injection e)), he, hT⟩,
    ⟨hg.os, hg.tape, hg.output, hg.size, fun j hj hn => hg.block j hj fun e => hn ((hT j).2 (Or.inr (by injection e))), fun x hx => Or.inl hx⟩⟩
theorem St.it_drop (h : St w0 S0 w L) (i : Nat) (hi : L[i]? = some (ItM P k b r n M left cnt0)) (hm : ∀ i, M' i = none) : St w0 S0 w (L.set i (OptM P k none M')) :=
  h.turn hi (OptM.ok _ _ _ _) fun T _ => ⟨fun _ => False, ⟨hm, fun x h => h⟩, ⟨rfl, rfl, rfl, Nat.le_refl _, fun _ _ _ => rfl, fun b h => h.elim⟩⟩
theorem wg_x {k : Nat} {R : Res} (hx : X[k]? = some R) : (WG m c bw V W F X)[2 + m + k]? = some R := by
  unfold WG
  rw [List.getElem?_append_right (by simp; omega)]
  have e : 2 + m + k - ([ArrR c 267 706 V, OptM Tryz.prog 3 (some bw) (WV W)] ++ (List.range m).map F).length = k := by simp; omega
  rw [e]; exact hx
theorem wg_xset {k : Nat} {R : Res} : (WG m c bw V W F X).set (2 + m + k) R = WG m c bw V W F (X.set k R) := by
  unfold WG
  rw [List.set_append_right _ _ (by simp; omega)]
  have e : 2 + m + k - ([ArrR c 267 706 V, OptM Tryz.prog 3 (some bw) (WV W)] ++ (List.range m).map F).length = k := by simp; omega
  rw [e]
theorem wg_app {N : List Res} : WG m c bw V W F X ++ N = WG m c bw V W F (X ++ N) := by unfold WG; rw [List.append_assoc]
theorem wg_at (hs : s < m) : (WG m c bw V W F X)[2 + s]? = some (F s) := by
  unfold WG
  rw [List.getElem?_append_left (by simp; omega)]
  exact fam_at [_, _] F hs
theorem st_empties (h : St w0 S0 w L) (hM : ∀ s i, MS T now s i = none) : ∀ q, St w0 S0 w (L ++ (List.range q).map fun s => OptM Tryz.prog 3 none (MS T now s))
  | 0 => by simpa using h
  | q + 1 => by
    rw [List.range_succ, List.map_append, ← List.append_assoc]
    exact (st_empties h hM q).more (Below.refl _ _) (Star.one (S := fun _ => False) (OptM.ok _ _ _ _) ⟨hM q, fun x h => h⟩) (fun b hb => hb.elim)
theorem ms_none (now : Int) (s : Nat) (i : Int) : MS (fun _ => none) now s i = none := rfl
theorem New_c (w : World) : Calls Tryz.prog 141 #[] w fun e w' => ∃ c bw, e = .returned (.pointer (some ⟨c, 0, none⟩)) ∧ St w None w' (WL 704 c bw 0 (fun _ => none) (fun _ => none) (fun _ => none) []) := by
  have zq := zero_w
  have zs : wZ.size = 706 := by simp [wZ]
  have hmm := @run_makeMap Tryz.prog
  have h1 := ((St.begin w).optm_new Tryz.prog 3).box_arr 267 (wZ.setIfInBounds 1 (.map (some w.heap.size))) 706 (wv 0 w.heap.size (fun _ => none)) (by simp [wZ]) (fun i hi => by
    by_cases e : i = 1
    · subst e; simp [wZ, wv]
    · rw [Array.getElem?_setIfInBounds_ne (by omega)]
      have e2 : wZ[i]? = some (if i = 0 then Value.int .u64 0 else .map none) := by simp [wZ, hi]
      rw [e2]; unfold wv; rw [if_neg e])
  rw [show (w.alloc (.map #[] 0)).heap.size = w.heap.size + 1 by simp] at h1
  have h2 := h1.comm (A := [OptM Tryz.prog 3 (some w.heap.size) (fun _ => none)])
  have h3 := st_empties (T := fun _ => none) (now := 0) h2 (ms_none 0) 704
  have H3 := Lib.hid (show St w None _ (WL 704 (w.heap.size + 1) w.heap.size 0 (fun _ => none) (fun _ => none) (fun _ => none) []) by unfold WL; rw [List.append_nil]; exact h3)
  clear h1 h2 h3
  go_enter Tryz.func141, Tryz.ntmps141
  go_wp2_with fail
  go_ret
  exact ⟨_, rfl, _, H3.out⟩
theorem New_o (H : St w0 S0 w X) : Calls Tryz.prog 141 #[] w fun e w' => ∃ c bw, e = .returned (.pointer (some ⟨c, 0, none⟩)) ∧ St w0 S0 w' (WL 704 c bw 0 (fun _ => none) (fun _ => none) (fun _ => none) X) :=
  (New_c w).mono fun e w' ⟨c, bw, he, s⟩ => ⟨c, bw, he, by
    have j := (H.join s).comm
    rw [wl_app] at j
    exact j⟩
end
end
section
set_option linter.unusedVariables false
/-- The timers that are there after the time went on to u. -/
def aft (T : Int → Option Int) (u : Int) : Int → Option Int := fun i => match T i with
  | some a => if a ≤ u then none else some a
  | none => none
/-- Of two timers, the one goes off ahead of the other. -/
def ltT (T : Int → Option Int) (i j : Int) : Prop := (T i).getD 0 < (T j).getD 0 ∨ (T i).getD 0 = (T j).getD 0 ∧ i < j
/-- What goes off as the time goes on to u. -/
structure OffP (T : Int → Option Int) (u : Int) (o : List Int) : Prop where
  sort : o.Pairwise (ltT T)
  mem : ∀ i, i ∈ o ↔ ∃ a, T i = some a ∧ a ≤ u
section
variable {T : Int → Option Int} {now u u' a : Int} {i j : Int} {o o' : List Int}
theorem aft_some (h : aft T u i = some a) : T i = some a ∧ u < a := by
  unfold aft at h
  cases hT : T i with
  | none => rw [hT] at h; cases h
  | some b =>
    rw [hT] at h
    dsimp only at h
    split at h
    · cases h
    · injection h with h; subst h; exact ⟨rfl, by omega⟩
theorem aft_at (h : T i = some a) (hu : u < a) : aft T u i = some a := by
  unfold aft; rw [h]; exact if_neg (by omega)
theorem aft_off (h : T i = some a) (hu : a ≤ u) : aft T u i = none := by
  unfold aft; rw [h]; exact if_pos hu
theorem aft_none (h : T i = none) : aft T u i = none := by unfold aft; rw [h]
theorem aft_iff : aft T u i = some a ↔ T i = some a ∧ u < a := ⟨aft_some, fun h => aft_at h.1 h.2⟩
theorem opt_ext {α : Type} {x y : Option α} (h : ∀ a, x = some a ↔ y = some a) : x = y := by
  cases x with
  | none => cases y with
    | none => rfl
    | some b => exact absurd ((h b).2 rfl) (by simp)
  | some b => exact ((h b).1 rfl).symm
theorem aft_aft (h : u ≤ u') : aft (aft T u) u' = aft T u' := by
  funext i
  exact opt_ext fun a => by
    rw [aft_iff, aft_iff, aft_iff]
    constructor
    · rintro ⟨⟨h1, h2⟩, h3⟩; exact ⟨h1, h3⟩
    · rintro ⟨h1, h2⟩; exact ⟨⟨h1, by omega⟩, h2⟩
theorem aft_like (h : ∀ i a, T i = some a → u < a) : aft T u = T := by
  funext i
  exact opt_ext fun a => by
    rw [aft_iff]
    exact ⟨fun h => h.1, fun h1 => ⟨h1, h i a h1⟩⟩
theorem TOK.aft (ok : TOK now T) (h : now ≤ u) (hu : u < 4611686018427387904) : TOK u (aft T u) := ⟨by have := ok.n0; omega, hu, fun i a h => by
  obtain ⟨h1, h2⟩ := aft_some h
  obtain ⟨a1, a2, a3, a4⟩ := ok.t i a h1
  exact ⟨a1, a2, h2, a4⟩⟩
theorem OffP.nil (ok : TOK now T) : OffP T now [] := ⟨.nil, fun i => ⟨fun h => (by cases h), fun ⟨a, h, hu⟩ => by have := (ok.t i a h).2.2.1; omega⟩⟩
theorem ltT_irr : ¬ ltT T i i := fun h => by rcases h with h | ⟨_, h⟩ <;> omega
theorem ltT_asymm (h : ltT T i j) : ¬ ltT T j i := fun h' => by
  rcases h with h | ⟨h1, h2⟩ <;> rcases h' with h' | ⟨h1', h2'⟩ <;> omega
theorem OffP.nodup (h : OffP T u o) : o.Nodup := List.Pairwise.imp (S := fun a b => a ≠ b) (fun {a b} (hab : ltT T a b) (e : a = b) => ltT_irr (T := T) (i := a) (by rw [← e] at hab; exact hab)) h.sort
/-- There is one answer. -/
theorem OffP.uniq (h : OffP T u o) (h' : OffP T u o') : o = o' := by
  have hp : o.Perm o' := (List.perm_ext_iff_of_nodup h.nodup h'.nodup).2 fun i => (h.mem i).trans (h'.mem i).symm
  exact hp.eq_of_pairwise (le := ltT T) (fun a b _ _ h1 h2 => absurd h2 (ltT_asymm h1)) h.sort h'.sort
/-- First to u, then on to u'. -/
theorem OffP.app (h : OffP T u o) (hu : u ≤ u') (h' : OffP (aft T u) u' o') : OffP T u' (o ++ o') := by
  have m' : ∀ i ∈ o', ∃ a, T i = some a ∧ u < a ∧ a ≤ u' := fun i hi => by
    obtain ⟨a, ha, hau⟩ := (h'.mem i).1 hi
    exact ⟨a, (aft_some ha).1, (aft_some ha).2, hau⟩
  refine ⟨List.pairwise_append.2 ⟨h.sort, h'.sort.imp_of_mem fun {i j} hi hj hl => ?_, fun i hi j hj => ?_⟩, fun i => ?_⟩
  · obtain ⟨a, ha, h1, h2⟩ := m' i hi
    obtain ⟨b, hb, h3, h4⟩ := m' j hj
    unfold ltT at hl ⊢
    rw [aft_at ha h1, aft_at hb h3] at hl
    rw [ha, hb]; exact hl
  · obtain ⟨a, ha, h1⟩ := (h.mem i).1 hi
    obtain ⟨b, hb, h3, h4⟩ := m' j hj
    refine Or.inl ?_
    rw [ha, hb]
    show a < b
    omega
  · rw [List.mem_append, h.mem, h'.mem]
    constructor
    · rintro (⟨a, h1, h2⟩ | ⟨a, h1, h2⟩)
      · exact ⟨a, h1, by omega⟩
      · exact ⟨a, (aft_some h1).1, h2⟩
    · rintro ⟨a, h1, h2⟩
      by_cases hh : a ≤ u
      · exact Or.inl ⟨a, h1, hh⟩
      · exact Or.inr ⟨a, aft_at h1 (by omega), h2⟩
/-- All of one time: by rising numbers. -/
theorem OffP.one (ok : ∀ i a, T i = some a → u ≤ a) (hs : o.Pairwise (· < ·)) (hm : ∀ i, i ∈ o ↔ T i = some u) : OffP T u o :=
  ⟨hs.imp_of_mem fun {i j} hi hj hl => Or.inr (by rw [(hm i).1 hi, (hm j).1 hj]; exact ⟨rfl, hl⟩), fun i => (hm i).trans ⟨fun h => ⟨u, h, Int.le_refl _⟩, fun ⟨a, h, hl⟩ => by
    have := ok i a h
    rw [h]; congr 1; omega⟩⟩
/-- .. none before the first. -/
theorem OffP.none (ok : ∀ i a, T i = some a → u < a) : OffP T u [] := ⟨.nil, fun i => ⟨fun h => (by cases h), fun ⟨a, h, hu⟩ => by have := ok i a h; omega⟩⟩
end
/-! ### places -/
section
variable {T T' : Int → Option Int} {now u a : Int} {i : Int} {s s' : Nat}
theorem spot_ex (h0 : 0 ≤ now) (h1 : now < a) (h2 : a < 4611686018427387904) : ∃ s, s < 704 ∧ SpS now a s := by
  obtain ⟨x, rfl⟩ := Int.eq_ofNat_of_zero_le (show 0 ≤ a by omega)
  obtain ⟨b, rfl⟩ := Int.eq_ofNat_of_zero_le h0
  have h := spot_of x b (by omega) (by omega) (by omega) rfl
  obtain ⟨l, hl⟩ : ∃ l, (Lib.bitLen (x ^^^ b) - 1) / 6 = l := ⟨_, rfl⟩
  rw [hl] at h
  obtain ⟨p, hp⟩ : ∃ p, x / 2 ^ (6 * l) = p := ⟨_, rfl⟩
  rw [hp] at h
  refine ⟨l * 64 + p % 64, by omega, ?_⟩
  unfold SpS
  rw [show (l * 64 + p % 64) / 64 = l by omega, show (l * 64 + p % 64) % 64 = p % 64 by omega]
  exact h.1
/-- Nothing lies ahead of place s. -/
def First (T : Int → Option Int) (now : Int) (s : Nat) : Prop := ∀ s', s' < s → ∀ i, MS T now s' i = none
theorem First.ge (hf : First T now s) (h : T i = some a) (hp : SpS now a s') : s ≤ s' := by
  apply Nat.le_of_not_lt
  intro hlt
  have := hf s' hlt i
  rw [MS_at hp h] at this
  cases this
theorem First.bg_le (ok : TOK now T) (hf : First T now s) (h : T i = some a) : bgS now s ≤ a := by
  obtain ⟨_, _, a0, a1⟩ := ok.t i a h
  obtain ⟨s', hs', hp⟩ := spot_ex ok.n0 a0 a1
  have hge := hf.ge h hp
  by_cases e : s = s'
  · subst e; exact hp.bg_le
  · have := hp.behind a0 (show s < s' by omega)
    have := lw_pos s
    omega
/-- As the time goes on to the first place's beginning, the others lie where they lay. -/
theorem First.spot (ok : TOK now T) (hf : First T now s) (h : T i = some a) (hn : ¬ SpS now a s) : SpS (bgS now s) a s' ↔ SpS now a s' := by
  obtain ⟨_, _, a0, a1⟩ := ok.t i a h
  obtain ⟨q, hq, hp⟩ := spot_ex ok.n0 a0 a1
  have hge := hf.ge h hp
  have hlt : s < q := by
    apply Nat.lt_of_le_of_ne hge
    rintro rfl
    exact hn hp
  have h2 := hp.stays a0 hlt bgS_pt1 (by have := lw_pos s; omega)
  constructor
  · intro h'; rw [SpS.one h' h2]; exact hp
  · intro h'; rw [SpS.one h' hp]; exact h2
theorem ms_no (h : T i = none) : MS T now s i = none := by unfold MS; rw [h]
theorem ms_so (h : T i = some a) : MS T now s i = if SpS now a s then some (.int .u64 a) else none := by unfold MS; rw [h]
theorem First.ms (ok : TOK now T) (hf : First T now s) (hT' : ∀ i, T' i = if (MS T now s i).isSome = true then none else T i) (j : Nat) : MS T' (bgS now s) j = if j = s then (fun _ => none) else MS T now j := by
  funext i
  have h1 := hT' i
  have hr : (if j = s then (fun _ => none) else MS T now j) i = if j = s then none else MS T now j i := by split <;> rfl
  rw [hr]
  cases hT : T i with
  | none =>
    rw [ms_no (show T' i = none by rw [h1, hT, ite_self]), ms_no hT, ite_self]
  | some a =>
    rw [ms_so hT] at h1 ⊢
    by_cases hs : SpS now a s
    · rw [if_pos hs] at h1
      rw [ms_no (show T' i = none from h1)]
      split
      · rfl
      · rename_i hj
        exact (if_neg fun h' => hj (SpS.one h' hs)).symm
    · rw [if_neg hs] at h1
      rw [ms_so (show T' i = some a by rw [h1, hT]; rfl)]
      by_cases hj : j = s
      · subst hj
        rw [if_pos rfl]
        exact if_neg fun h' => hs ((hf.spot ok hT hs).1 h')
      · rw [if_neg hj]
        by_cases h' : SpS now a j
        · rw [if_pos h', if_pos ((hf.spot ok hT hs).2 h')]
        · rw [if_neg h', if_neg fun h2 => h' ((hf.spot ok hT hs).1 h2)]
/-- As the time goes on to what is ahead of all, all lie where they lay. -/
theorem First.stay (ok : TOK now T) (hf : First T now s) (hex : ∃ i, (MS T now s i).isSome = true) (h1 : now ≤ u) (h2 : u < bgS now s) (j : Nat) : MS T u j = MS T now j := by
  obtain ⟨k, hk⟩ := hex
  obtain ⟨v, hv⟩ := Option.isSome_iff_exists.1 hk
  obtain ⟨b, hb, hbs, -⟩ := MS_inv hv
  have hpt := hbs.pt1 h1 (by have := hbs.bg_le; omega)
  funext i
  cases hT : T i with
  | none => rw [ms_no hT, ms_no hT]
  | some a =>
    rw [ms_so hT, ms_so hT]
    obtain ⟨_, _, a0, a1⟩ := ok.t i a hT
    obtain ⟨q, hq, hp⟩ := spot_ex ok.n0 a0 a1
    have hge := hf.ge hT hp
    have h3 : SpS u a q := by
      by_cases e : s = q
      · subst e; exact hp.stays0 h1 h2
      · exact hp.stays a0 (show s < q by omega) hpt (by have := lw_pos s; omega)
    by_cases h' : SpS now a j
    · rw [if_pos h', SpS.one h' hp, if_pos h3]
    · rw [if_neg h', if_neg fun h4 => h' (by rw [SpS.one h4 h3]; exact hp)]
theorem empty_stay (ok : TOK now T) (h : ∀ s', s' < 704 → ∀ i, MS T now s' i = none) (j : Nat) : MS T u j = MS T now j := by
  have hT : T = fun _ => none := by
    funext i
    cases hT : T i with
    | none => rfl
    | some a =>
      obtain ⟨_, _, a0, a1⟩ := ok.t i a hT
      obtain ⟨q, hq, hp⟩ := spot_ex ok.n0 a0 a1
      have := h q hq i
      rw [MS_at hp hT] at this; cases this
  subst hT; rfl
theorem empty_all (ok : TOK now T) (h : ∀ s', s' < 704 → ∀ i, MS T now s' i = none) (i : Int) : T i = none := by
  cases hT : T i with
  | none => rfl
  | some a =>
    obtain ⟨_, _, a0, a1⟩ := ok.t i a hT
    obtain ⟨q, hq, hp⟩ := spot_ex ok.n0 a0 a1
    have := h q hq i
    rw [MS_at hp hT] at this; cases this
end
end
section
set_option linter.unusedVariables false
set_option maxRecDepth 100000
set_option maxHeartbeats 2000000
/-- The timers that the wheel knows, and those that lie in places, once pre was gone over and post was not. -/
def Wp (T : Int → Option Int) (B : Int) (pre : List Int) : Int → Option Int := fun i => if i ∈ pre ∧ T i = some B then none else T i
def Tp (T : Int → Option Int) (B : Int) (pre post : List Int) : Int → Option Int := fun i => if i ∈ post then none else Wp T B pre i
section
variable {T : Int → Option Int} {B a id : Int} {pre post : List Int}
theorem wp_nil : Wp T B [] = T := by funext i; unfold Wp; simp
theorem wp_lay (h : T id = some a) (ne : a ≠ B) : updT (Wp T B pre) id (some a) = Wp T B (pre ++ [id]) := by
  funext i; unfold updT Wp
  by_cases e : i = id
  · rw [if_pos e, e, h, if_neg]
    rintro ⟨_, h2⟩; injection h2 with h2; exact ne h2
  · rw [if_neg e]; simp [e]
theorem wp_go (h : T id = some B) : updT (Wp T B pre) id none = Wp T B (pre ++ [id]) := by
  funext i; unfold updT Wp
  by_cases e : i = id
  · rw [if_pos e, e, if_pos ⟨by simp, h⟩]
  · rw [if_neg e]; simp [e]
theorem tp_lay (h : T id = some a) (ne : a ≠ B) (hp : id ∉ post) : updT (Tp T B pre (id :: post)) id (some a) = Tp T B (pre ++ [id]) post := by
  funext i; unfold updT Tp
  rw [← wp_lay (pre := pre) h ne]
  unfold updT
  by_cases e : i = id
  · rw [if_pos e, if_pos e, if_neg (by rw [e]; exact hp)]
  · rw [if_neg e, if_neg e]; simp [e]
theorem tp_go (h : T id = some B) (hp : id ∉ post) : Tp T B pre (id :: post) = Tp T B (pre ++ [id]) post := by
  funext i; unfold Tp
  rw [← wp_go (pre := pre) h]
  unfold updT
  by_cases e : i = id
  · rw [if_pos e, if_pos (by simp [e])]; split <;> rfl
  · rw [if_neg e]; simp [e]
theorem tp_end : Tp T B pre [] = Wp T B pre := by funext i; unfold Tp; simp
theorem tp_id : Tp T B pre (id :: post) id = none := by unfold Tp; rw [if_pos (by simp)]
theorem wp_all (hm : ∀ i, T i = some B → i ∈ pre) (ge : ∀ i a, T i = some a → B ≤ a) : Wp T B pre = aft T B := by
  funext i; unfold Wp aft
  cases hT : T i with
  | none => simp
  | some a =>
    have := ge i a hT
    dsimp only
    by_cases e : a = B
    · subst e
      rw [if_pos ⟨hm i hT, rfl⟩, if_pos (Int.le_refl _)]
    · rw [if_neg (by rintro ⟨_, h⟩; injection h with h; exact e h), if_neg (by omega)]
end
section
variable {w0 w w' : World} {S0 S : Nat → Prop} {L X : List Res} {m c bw s b n n' sz : Nat} {now at' id : Int} {mb mb' : Nat → Option Nat} {W W' T T' : Int → Option Int} {V V' : Nat → Value} {F F' : Nat → Res} {e : TypeId} {v v' : Value} {xs xs' : List Value}
theorem last_at {R : Res} : (X ++ [R])[X.length]? = some R := by simp
theorem last_set {R R' : Res} : (X ++ [R]).set X.length R' = X ++ [R'] := by rw [List.set_append_right _ _ (Nat.le_refl _)]; simp
theorem wg_last (H : St w0 S0 w (WG m c bw V W F (X ++ [LisR e sz v n xs]))) : Lis w e sz v n xs := H.lis _ (wg_x last_at)
theorem wg_lput (H : St w0 S0 w (WG m c bw V W F (X ++ [LisR e sz v n xs]))) (hl : Lis w' e sz v' n' xs') (hg : w.grownBy w' v.ownBlock) (hat : v'.ownBlock = v.ownBlock ∨ ∃ g, v'.ownBlock = some g ∧ w.heap.size ≤ g) : St w0 S0 w' (WG m c bw V W F (X ++ [LisR e sz v' n' xs'])) := by
  have h := H.lis_put _ (wg_x last_at) hl hg hat
  rw [wg_xset, last_set] at h
  exact h
theorem wl_last (H : St w0 S0 w (WL m c bw now mb W T (X ++ [LisR e sz v n xs]))) : Lis w e sz v n xs := wg_last H
theorem wl_lput (H : St w0 S0 w (WL m c bw now mb W T (X ++ [LisR e sz v n xs]))) (hl : Lis w' e sz v' n' xs') (hg : w.grownBy w' v.ownBlock) (hat : v'.ownBlock = v.ownBlock ∨ ∃ g, v'.ownBlock = some g ∧ w.heap.size ≤ g) : St w0 S0 w' (WL m c bw now mb W T (X ++ [LisR e sz v' n' xs'])) := wg_lput H hl hg hat
theorem wl_less {R R' : Res} (H : St w0 S0 w (WL m c bw now mb W T ((X ++ [R]) ++ [R']))) : St w0 S0 w (WL m c bw now mb W T (X ++ [R'])) := by
  have h := H.drop (2 + m + X.length) (by unfold WL; simp; omega)
  have e : (WL m c bw now mb W T ((X ++ [R]) ++ [R'])).eraseIdx (2 + m + X.length) = WL m c bw now mb W T (X ++ [R']) := by
    unfold WL
    rw [List.eraseIdx_append_of_length_le (by simp; omega)]
    congr 1
    rw [show 2 + m + X.length - ([ArrR c 267 706 (wv now bw mb), OptM Tryz.prog 3 (some bw) (WV W)] ++ (List.range m).map (fun s => OptM Tryz.prog 3 (mb s) (MS T now s))).length = X.length by simp; omega]
    rw [List.append_assoc, List.eraseIdx_append_of_length_le (Nat.le_refl _)]
    simp
  rw [e] at h; exact h
/-- The place that was gone over is given up, and the time goes on to its beginning. -/
theorem wl_open {r n0 cn : Nat} {left : Int → Bool} (H : St w0 S0 w (WG 704 c bw (wv now bw mb) W (fun j => if j = s then ItM Tryz.prog 3 b r n0 (MS T now s) left cn else OptM Tryz.prog 3 (mb j) (MS T now j)) X)) (ok : TOK now T) (hs : s < 704) (hf : First T now s) (hT' : ∀ i, T' i = if (MS T now s i).isSome = true then none else T i) :
    St w0 S0 ((w.setCell ⟨c, 2 + s, none⟩ (.map none)).setCell ⟨c, 0, none⟩ (.int .u64 (bgS now s))) (WL 704 c bw (bgS now s) (updN mb s none) W T' X) := by
  have h1 := H.it_drop (M' := fun _ => none) _ (by rw [wg_at hs, if_pos rfl]) (fun _ => rfl)
  rw [wg_s hs] at h1
  have h2 := h1.arr_set 0 rfl (show 2 + s < 706 by omega) (.map none)
  have h3 := h2.arr_set 0 rfl (show 0 < 706 by omega) (.int .u64 (bgS now s))
  refine wl_of (V := fun j => if j = 0 then .int .u64 (bgS now s) else if j = 2 + s then .map none else wv now bw mb j) h3 (fun j hj => ?_) fun j hj => ?_
  · rw [wv_now (now := now) _ j hj, wv_upd hs none j hj]
  · rw [hf.ms ok hT' j]
    unfold updN
    by_cases e : j = s
    · rw [if_pos e, if_pos e, if_pos e]
    · rw [if_neg e, if_neg e, if_neg e, if_neg e]
end
end
end Go.Proofs.YtdjhpdacglojaaaGreat
