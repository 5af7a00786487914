/- BsA: TickRef TickV TickW ShareC ShareL ShareR ShareO ShareX BusM BusC BusD BusE BusF BusG BusH BusI BusJ BusK in a namespace of their own. Printed by bin/nsgen.py. -/
import Derived.Test.YtdjhpdacglojaaaGreatTickC
import Derived.Test.YtdjhpdacglojaaaGreatObj
import Derived.WalkLawsBesides
import Derived.WalkSpells
import Derived.BigQuiet
import Derived.RegionTactic
import Derived.Outline
import Derived.Test.YtdjhpdacglojaaaGreatLis
import Derived.Deep.RegionHeld3
import Derived.Deep.DrawnRows
import Derived.Test.YtdjhpdacglojaaaGreatFam
import Derived.Test.YtdjhpdacglojaaaGreatRd
import Derived.BigRegion
import Derived.Deep.RegionWith
import Derived.Deep.DeepCutAuto
import Derived.Test.YtdjhpdacglojaaaGreatOpen
namespace Go.Proofs.YtdjhpdacglojaaaGreat
open Go.RowKit
namespace bs
section
theorem rmay_any (t : Int) (w : World) : Calls Tryz.prog 111 #[.int .u64 t] w fun e w' => e = .returned (.bool (decide (t ≤ 4611686018427387903))) ∧ w = w' := by
  go_enter Tryz.func111, Tryz.ntmps111
  go_wp2
  go_ret
  exact ⟨rfl, rfl⟩
theorem rmay_yes (t : Int) (w : World) (h : t < 4611686018427387904) : Calls Tryz.prog 111 #[.int .u64 t] w fun e w' => e = .returned (.bool true) ∧ w = w' :=
  (rmay_any t w).mono fun _ _ ⟨he, hw⟩ => ⟨by rw [he, decide_eq_true (show t ≤ 4611686018427387903 by omega)], hw⟩
theorem rmay_no (t : Int) (w : World) (h : ¬ t < 4611686018427387904) : Calls Tryz.prog 111 #[.int .u64 t] w fun e w' => e = .returned (.bool false) ∧ w = w' :=
  (rmay_any t w).mono fun _ _ ⟨he, hw⟩ => ⟨by rw [he, decide_eq_false (show ¬ t ≤ 4611686018427387903 by omega)], hw⟩
theorem rup_0 (n : Int) (w : World) : Calls Tryz.prog 86 #[.int .u64 n, .int .u64 0] w fun e w' => e = .returned (.int .u64 0) ∧ w = w' := by
  go_enter Tryz.func86, Tryz.ntmps86
  go_wp2
  go_ret
  exact ⟨rfl, rfl⟩
theorem rup_any (n d : Int) (w : World) (hn : 0 ≤ n) (hn1 : n ≤ 18446744073709551615) (hd : 1 ≤ d) : Calls Tryz.prog 86 #[.int .u64 n, .int .u64 d] w fun e w' => e = .returned (.int .u64 (tUp n d)) ∧ w = w' := by
  have z0 : (d == 0) = false := beq_eq_false_iff_ne.2 (by omega)
  have q0 : 0 ≤ n / d := Int.ediv_nonneg (by omega) (by omega)
  have q1 : n / d ≤ n := Int.ediv_le_self _ (by omega)
  have q3 : 0 ≤ n / d * d := Int.mul_nonneg q0 (by omega)
  have q4 : n / d * d ≤ n := Int.ediv_mul_le _ (by omega)
  have e := Int.mul_ediv_add_emod n d
  have r0 : 0 ≤ n % d := Int.emod_nonneg n (by omega)
  rw [Int.mul_comm] at e
  by_cases h : n % d = 0
  · have z1 : ¬ n / d * d < n := by omega
    rw [tUp_dvd hd h]
    clear h e r0
    go_enter Tryz.func86, Tryz.ntmps86
    go_wp2
    go_ret
    exact ⟨rfl, rfl⟩
  · have z1 : n / d * d < n := by omega
    have q2 : n / d + 1 ≤ 18446744073709551615 := by
      by_cases hd1 : d = 1
      · subst hd1; omega
      · have hm := Int.ediv_mul_le n (show d ≠ 0 by omega)
        have : n / d * 2 ≤ n / d * d := Int.mul_le_mul_of_nonneg_left (by omega) q0
        omega
    rw [tUp_not hd h]
    clear h e r0
    go_enter Tryz.func86, Tryz.ntmps86
    go_wp2
    go_ret
    exact ⟨rfl, rfl⟩
end
section
def addV (t s : Int) : Int := if s ≤ 4611686018427387904 ∧ t + s < 4611686018427387904 then t + s else 0
def addE (t s : Int) : Int := if s ≤ 4611686018427387904 ∧ t + s < 4611686018427387904 then 0 else 2
def leftV (t u : Int) : Int := if u ≤ t then 0 else u - t
theorem left_v (t u : Int) (w : World) (h0 : 0 ≤ t) (h1 : u ≤ 18446744073709551615) : Calls Tryz.prog 103 #[.int .u64 t, .int .u64 u] w fun e w' => e = .returned (.int .u64 (leftV t u)) ∧ w = w' := by
  unfold leftV; by_cases h : u ≤ t
  · rw [if_pos h]; exact left_0 t u w h
  · rw [if_neg h]; exact left_pos t u w h0 (by omega) h1
def mayV (t : Int) : Bool := decide (t < 4611686018427387904)
theorem may_v (t : Int) (w : World) : Calls Tryz.prog 102 #[.int .u64 t] w fun e w' => e = .returned (.bool (mayV t)) ∧ w = w' := may_any t w
def upV (n d : Int) : Int := if d = 0 then 0 else tUp n d
def wok (p t d : Int) : Prop := 1 ≤ d ∧ d ≤ 4611686018427387904 ∧ p ≤ t
instance (p t d : Int) : Decidable (wok p t d) := by unfold wok; infer_instance
def hok (p t : Int) : Prop := t < 4611686018427387904 ∧ p < 4611686018427387904
instance (p t : Int) : Decidable (hok p t) := by unfold hok; infer_instance
def winK (t p d : Int) : Int := if hok p t then if wok p t d then (t - p) / d else 0 else 0
def winA (t p d : Int) : Int := if hok p t then if wok p t d then p + (t - p) / d * d else 0 else 0
def winE (t p d : Int) : Int := if hok p t then if wok p t d then 0 else 1 else 2
theorem window_v (t p d : Int) (w : World) (h0 : 0 ≤ p) : Calls Tryz.prog 194 #[.int .u64 t, .int .u64 p, .int .u64 d] w fun e w' => e = .returned (.tuple #[.int .u64 (winK t p d), .int .u64 (winA t p d), .int .i64 (winE t p d)]) ∧ w = w' := by
  unfold winK winA winE
  by_cases h : hok p t
  · by_cases k : wok p t d
    · simp only [if_pos h, if_pos k]; exact window_ok t p d w h0 k.2.2 h.1 ⟨k.1, k.2.1⟩
    · simp only [if_pos h, if_neg k]; exact window_arg t p d w h.1 h.2 k
  · simp only [if_neg h]; exact window_hor t p d w h
def pok (d : Int) : Prop := 1 ≤ d ∧ d ≤ 4611686018427387904
instance (d : Int) : Decidable (pok d) := by unfold pok; infer_instance
def nxtV (t p d : Int) : Int := if hok p t then if pok d then if t < p then p else if p + (t - p) / d * d + d < 4611686018427387904 then p + (t - p) / d * d + d else 0 else 0 else 0
def nxtE (t p d : Int) : Int := if hok p t then if pok d then if t < p then 0 else if p + (t - p) / d * d + d < 4611686018427387904 then 0 else 2 else 1 else 2
end
section
set_option linter.unusedVariables false
theorem rwin_eq (t p d : Int) (hd : 1 ≤ d) : (t - p - (t - p) % d) / d = (t - p) / d ∧ t - (t - p) % d = p + (t - p) / d * d := by
  have e := Int.mul_ediv_add_emod (t - p) d
  have e2 : t - p - (t - p) % d = d * ((t - p) / d) := by omega
  refine ⟨by rw [e2, Int.mul_ediv_cancel_left _ (by omega)], ?_⟩
  rw [Int.mul_comm] at e; omega
theorem rwindow_ok (t p d : Int) (w : World) (h0 : 0 ≤ p) (hp : p ≤ t) (ht : t < 4611686018427387904) (h1 : 1 ≤ d ∧ d ≤ 4611686018427387904) : Calls Tryz.prog 157 #[.int .u64 t, .int .u64 p, .int .u64 d] w fun e w' => e = .returned (.tuple #[.int .u64 ((t - p) / d), .int .u64 (p + (t - p) / d * d), .int .i64 0]) ∧ w = w' := by
  obtain ⟨e1, e2⟩ := rwin_eq t p d h1.1
  rw [← e2, ← e1]
  clear e1 e2
  have r0 : 0 ≤ (t - p) % d := Int.emod_nonneg _ (by omega)
  have r1 : (t - p) % d ≤ t - p := by have e := Int.mul_ediv_add_emod (t - p) d; have := Int.mul_nonneg (show 0 ≤ d by omega) (Int.ediv_nonneg (show 0 ≤ t - p by omega) (show 0 ≤ d by omega)); omega
  obtain ⟨g1, g2⟩ := h1
  have z1 : (d == 0) = false := beq_eq_false_iff_ne.2 (by omega)
  have z2 : decide (4611686018427387904 < d) = false := decide_eq_false (by omega)
  have z3 : decide (t < p) = false := decide_eq_false (by omega)
  have m0 : 0 ≤ (t - p - (t - p) % d) / d := Int.ediv_nonneg (by omega) (by omega)
  have m1 : (t - p - (t - p) % d) / d ≤ t - p - (t - p) % d := Int.ediv_le_self _ (by omega)
  go_enter Tryz.func157, Tryz.ntmps157
  go_wp2_with (first | (go_at_call 111; refine (rmay_yes _ _ (by omega)).mono ?_; rintro e w' ⟨rfl, rfl⟩) | go_in)
  go_ret3
  exact ⟨rfl, rfl⟩
theorem rwindow_arg (t p d : Int) (w : World) (h0 : 0 ≤ d) (ht : t < 4611686018427387904) (hp : p < 4611686018427387904) (h : ¬ (1 ≤ d ∧ d ≤ 4611686018427387904 ∧ p ≤ t)) : Calls Tryz.prog 157 #[.int .u64 t, .int .u64 p, .int .u64 d] w fun e w' => e = .returned (.tuple #[.int .u64 0, .int .u64 0, .int .i64 1]) ∧ w = w' := by
  by_cases h1 : 1 ≤ d
  · have z1 : (d == 0) = false := beq_eq_false_iff_ne.2 (by omega)
    by_cases h2 : 4611686018427387904 < d
    · have z2 : decide (4611686018427387904 < d) = true := decide_eq_true h2
      clear h
      go_enter Tryz.func157, Tryz.ntmps157
      go_wp2_with (first | (go_at_call 111; refine (rmay_yes _ _ (by omega)).mono ?_; rintro e w' ⟨rfl, rfl⟩) | go_in)
      go_ret3
      exact ⟨rfl, rfl⟩
    · have z2 : decide (4611686018427387904 < d) = false := decide_eq_false h2
      have z3 : decide (t < p) = true := decide_eq_true (by omega)
      clear h
      go_enter Tryz.func157, Tryz.ntmps157
      go_wp2_with (first | (go_at_call 111; refine (rmay_yes _ _ (by omega)).mono ?_; rintro e w' ⟨rfl, rfl⟩) | go_in)
      go_ret3
      exact ⟨rfl, rfl⟩
  · obtain rfl : d = 0 := by omega
    clear h
    go_enter Tryz.func157, Tryz.ntmps157
    go_wp2_with (first | (go_at_call 111; refine (rmay_yes _ _ (by omega)).mono ?_; rintro e w' ⟨rfl, rfl⟩) | go_in)
    go_ret3
    exact ⟨rfl, rfl⟩
theorem rwindow_hor (t p d : Int) (w : World) (h : ¬ (t < 4611686018427387904 ∧ p < 4611686018427387904)) : Calls Tryz.prog 157 #[.int .u64 t, .int .u64 p, .int .u64 d] w fun e w' => e = .returned (.tuple #[.int .u64 0, .int .u64 0, .int .i64 2]) ∧ w = w' := by
  by_cases h2 : t < 4611686018427387904
  · have d1 : decide (t ≤ 4611686018427387903) = true := decide_eq_true (by omega)
    have d2 : decide (p ≤ 4611686018427387903) = false := decide_eq_false (by omega)
    clear h
    go_enter Tryz.func157, Tryz.ntmps157
    go_wp2
    go_ret3
    exact ⟨rfl, rfl⟩
  · have d1 : decide (t ≤ 4611686018427387903) = false := decide_eq_false (by omega)
    clear h
    go_enter Tryz.func157, Tryz.ntmps157
    go_wp2
    go_ret3
    exact ⟨rfl, rfl⟩
theorem rwindow_v (t p d : Int) (w : World) (h0 : 0 ≤ p) (h1 : 0 ≤ d) : Calls Tryz.prog 157 #[.int .u64 t, .int .u64 p, .int .u64 d] w fun e w' => e = .returned (.tuple #[.int .u64 (winK t p d), .int .u64 (winA t p d), .int .i64 (winE t p d)]) ∧ w = w' := by
  unfold winK winA winE
  by_cases h : hok p t
  · by_cases k : wok p t d
    · simp only [if_pos h, if_pos k]; exact rwindow_ok t p d w h0 k.2.2 h.1 ⟨k.1, k.2.1⟩
    · simp only [if_pos h, if_neg k]; exact rwindow_arg t p d w h1 h.1 h.2 k
  · simp only [if_neg h]; exact rwindow_hor t p d w h
end
section
set_option linter.unusedVariables false
/-- The meter in block b: budget, period, phase, now, window, taken. -/
def Mk (w : World) (b : Nat) (B P ph N W T : Int) : Prop := Blk w b 254 #[.int .u64 B, .int .u64 P, .int .u64 ph, .int .u64 N, .int .u64 W, .int .u64 T]
section
variable {w : World} {b : Nat} {B P ph N W T : Int}
theorem Mk.c0 (h : Mk w b B P ph N W T) : w.cell? ⟨b, 0, none⟩ = some (.int .u64 B) := by have := Blk.cell h 0; simpa using this
theorem Mk.c1 (h : Mk w b B P ph N W T) : w.cell? ⟨b, 1, none⟩ = some (.int .u64 P) := by have := Blk.cell h 1; simpa using this
theorem Mk.c2 (h : Mk w b B P ph N W T) : w.cell? ⟨b, 2, none⟩ = some (.int .u64 ph) := by have := Blk.cell h 2; simpa using this
theorem Mk.c3 (h : Mk w b B P ph N W T) : w.cell? ⟨b, 3, none⟩ = some (.int .u64 N) := by have := Blk.cell h 3; simpa using this
theorem Mk.c4 (h : Mk w b B P ph N W T) : w.cell? ⟨b, 4, none⟩ = some (.int .u64 W) := by have := Blk.cell h 4; simpa using this
theorem Mk.c5 (h : Mk w b B P ph N W T) : w.cell? ⟨b, 5, none⟩ = some (.int .u64 T) := by have := Blk.cell h 5; simpa using this
end
theorem goOn_same (b : Nat) (B P ph N T now : Int) (w : World) (hb : Mk w b B P ph N ((now - ph) / P) T) (h0 : 0 ≤ ph) (h1 : ph ≤ now) (h2 : now < 4611686018427387904) (hP : 1 ≤ P ∧ P ≤ 4611686018427387904) :
    Calls Tryz.prog 183 #[.pointer (some ⟨b, 0, none⟩), .int .u64 now] w fun e w' => e = .returned (.tuple #[]) ∧ Mk w' b B P ph now ((now - ph) / P) T ∧ Only b w w' := by
  have c0 := hb.c0
  have c1 := hb.c1
  have c2 := hb.c2
  have c3 := hb.c3
  have c4 := hb.c4
  have c5 := hb.c5
  have f3 := Blk.frozen hb 3
  go_enter Tryz.func183, Tryz.ntmps183
  have z0 : ((now - ph) / P != (now - ph) / P) = false := by simp
  go_wp2_with fail
  go_quiet ((go_at_call 194; exact q_left (window_ok _ _ _ _ h0 h1 h2 hP)))
  go_wp2
  go_end0
  exact ⟨rfl, (hb.drewN _).set_ 3 _, ((Only.refl _ _).drewN _).set_ 3 _⟩
theorem goOn_new (b : Nat) (B P ph N W T now : Int) (w : World) (hb : Mk w b B P ph N W T) (h0 : 0 ≤ ph) (h1 : ph ≤ now) (h2 : now < 4611686018427387904) (hP : 1 ≤ P ∧ P ≤ 4611686018427387904) (hW : W ≠ (now - ph) / P) :
    Calls Tryz.prog 183 #[.pointer (some ⟨b, 0, none⟩), .int .u64 now] w fun e w' => e = .returned (.tuple #[]) ∧ Mk w' b B P ph now ((now - ph) / P) 0 ∧ Only b w w' := by
  have c0 := hb.c0
  have c1 := hb.c1
  have c2 := hb.c2
  have c3 := hb.c3
  have c4 := hb.c4
  have c5 := hb.c5
  have f3 := Blk.frozen hb 3
  have f4 := Blk.frozen hb 4
  have f5 := Blk.frozen hb 5
  have z0 : ((now - ph) / P != W) = true := bne_iff_ne.2 (Ne.symm hW)
  clear hW
  go_enter Tryz.func183, Tryz.ntmps183
  go_wp2_with fail
  go_quiet ((go_at_call 194; exact q_left (window_ok _ _ _ _ h0 h1 h2 hP)))
  go_wp2
  go_end0
  exact ⟨rfl, (((hb.drewN _).set_ 4 _).set_ 5 _).set_ 3 _, ((((Only.refl _ _).drewN _).set_ 4 _).set_ 5 _).set_ 3 _⟩
/-- How many were taken in the window K, when those of window W were T. -/
def tkn (W T K : Int) : Int := if W = K then T else 0
theorem goOn_any (b : Nat) (B P ph N W T now : Int) (w : World) (hb : Mk w b B P ph N W T) (h0 : 0 ≤ ph) (h1 : ph ≤ now) (h2 : now < 4611686018427387904) (hP : 1 ≤ P ∧ P ≤ 4611686018427387904) :
    Calls Tryz.prog 183 #[.pointer (some ⟨b, 0, none⟩), .int .u64 now] w fun e w' => e = .returned (.tuple #[]) ∧ Mk w' b B P ph now ((now - ph) / P) (tkn W T ((now - ph) / P)) ∧ Only b w w' := by
  unfold tkn
  by_cases h : W = (now - ph) / P
  · subst h; rw [if_pos rfl]; exact goOn_same b B P ph N T now w hb h0 h1 h2 hP
  · rw [if_neg h]; exact goOn_new b B P ph N W T now w hb h0 h1 h2 hP h
theorem tmay_yes (t : Int) (w : World) (h : t < 4611686018427387904) : Calls Tryz.prog 102 #[.int .u64 t] w fun e w' => e = .returned (.bool true) ∧ w = w' :=
  (may_any t w).mono fun _ _ ⟨he, hw⟩ => ⟨by rw [he, decide_eq_true h], hw⟩
/-- What holds of a meter between two calls. -/
def MOK (B P ph N W T : Int) : Prop := 1 ≤ B ∧ B ≤ P ∧ P ≤ 1099511627776 ∧ 0 ≤ ph ∧ ph ≤ N ∧ 0 ≤ T ∧ T ≤ B
theorem tkn_bd {W T K B : Int} (h0 : 0 ≤ T) (h1 : T ≤ B) : 0 ≤ tkn W T K ∧ tkn W T K ≤ B := by unfold tkn; split <;> omega
theorem may_yes (B P : Int) (w : World) (h : 1 ≤ B ∧ B ≤ P ∧ P ≤ 1099511627776) :
    Calls Tryz.prog 140 #[.agg #[.int .u64 B, .int .u64 P]] w fun e w' => e = .returned (.bool true) ∧ Below w.heap.size w w' := by
  have d1 : decide (1 ≤ P) = true := decide_eq_true (by omega)
  have d2 : decide (P ≤ 1099511627776) = true := decide_eq_true h.2.2
  have d3 : decide (1 ≤ B) = true := decide_eq_true h.1
  have d4 : decide (B ≤ P) = true := decide_eq_true h.2.1
  go_enter Tryz.func140, Tryz.ntmps140
  go_wp2
  go_ret
  exact ⟨rfl, (Below.refl _ _).alloc (Nat.le_refl _) _⟩
theorem may_no (B P : Int) (w : World) (h : ¬ (1 ≤ B ∧ B ≤ P ∧ P ≤ 1099511627776)) :
    Calls Tryz.prog 140 #[.agg #[.int .u64 B, .int .u64 P]] w fun e w' => e = .returned (.bool false) ∧ Below w.heap.size w w' := by
  by_cases h1 : 1 ≤ P
  · have d1 : decide (1 ≤ P) = true := decide_eq_true h1
    by_cases h2 : P ≤ 1099511627776
    · have d2 : decide (P ≤ 1099511627776) = true := decide_eq_true h2
      by_cases h3 : 1 ≤ B
      · have d3 : decide (1 ≤ B) = true := decide_eq_true h3
        have d4 : decide (B ≤ P) = false := decide_eq_false (by omega)
        clear h
        go_enter Tryz.func140, Tryz.ntmps140
        go_wp2
        go_ret
        exact ⟨rfl, (Below.refl _ _).alloc (Nat.le_refl _) _⟩
      · have d3 : decide (1 ≤ B) = false := decide_eq_false h3
        clear h
        go_enter Tryz.func140, Tryz.ntmps140
        go_wp2
        go_ret
        exact ⟨rfl, (Below.refl _ _).alloc (Nat.le_refl _) _⟩
    · have d2 : decide (P ≤ 1099511627776) = false := decide_eq_false h2
      clear h
      go_enter Tryz.func140, Tryz.ntmps140
      go_wp2
      go_ret
      exact ⟨rfl, (Below.refl _ _).alloc (Nat.le_refl _) _⟩
  · have d1 : decide (1 ≤ P) = false := decide_eq_false h1
    clear h
    go_enter Tryz.func140, Tryz.ntmps140
    go_wp2
    go_ret
    exact ⟨rfl, (Below.refl _ _).alloc (Nat.le_refl _) _⟩
theorem tell_left (b : Nat) (B P ph N W T now v : Int) (w : World) (hb : Mk w b B P ph N W T) (ho : MOK B P ph N W T) (h1 : N ≤ now) (h2 : now < 4611686018427387904) 
    (hc : ∀ w1, Below w.heap.size w w1 → Calls Tryz.prog 173 #[.int .u64 (B - tkn W T ((now - ph) / P))] w1 fun e w' => e = .returned (.tuple #[.int .u64 v, .int .i64 0]) ∧ Below w1.heap.size w1 w') :
    Calls Tryz.prog 172 #[.pointer (some ⟨b, 0, none⟩), .int .u64 now, (.func (Fn.func 173) #[] #[])] w fun e w' => e = .returned (.tuple #[.int .u64 v, .int .i64 0]) ∧ Mk w' b B P ph now ((now - ph) / P) (tkn W T ((now - ph) / P)) ∧ Only b w w' := by
  obtain ⟨g1, g2, g3, g4, g5, g6, g7⟩ := ho
  have bd := tkn_bd (W := W) (K := (now - ph) / P) g6 g7
  have HC := Lib.hid hc
  clear hc
  have c0 := hb.c0
  have c1 := hb.c1
  have c2 := hb.c2
  have c3 := hb.c3
  have c4 := hb.c4
  have c5 := hb.c5
  have hbl := hb.lt
  have d1 : decide (now < N) = false := decide_eq_false (by omega)
  go_enter Tryz.func172, Tryz.ntmps172
  go_wp2_with (first | (go_at_call 102; refine (tmay_yes _ _ h2).mono ?_; rintro e w' ⟨rfl, rfl⟩) | (go_at_call 183; refine (goOn_any w.heap.size B P ph N W T now _ (Blk.new _ _ _) g4 (by omega) h2 (by omega)).mono ?_; rintro e w1 ⟨rfl, hb1, ho1⟩; have e0 := hb1.c0; have e5 := hb1.c5))
  have hw1 : Below w.heap.size w w1 := ((Below.refl _ _).alloc (Nat.le_refl _) _).trans (ho1.below (Nat.le_refl _) (by simp))
  have hm1 : Mk w1 b B P ph N W T := ho1.blk (Blk.alloc hb _) (by omega)
  refine (HC.out _ hw1).mono ?_
  rintro e w2 ⟨rfl, hb2⟩
  have hm2 : Mk w2 b B P ph N W T := Blk.below hm1 hb2 hm1.lt
  have hn2 : Mk w2 w.heap.size B P ph now ((now - ph) / P) (tkn W T ((now - ph) / P)) := Blk.below hb1 hb2 hb1.lt
  have hw2 : Below w.heap.size w w2 := hw1.trans (hb2.mono hw1.size)
  clear c0 c1 c2 c3 c4 c5 e0 e5
  have c0 := hm2.c0
  have c1 := hm2.c1
  have c2 := hm2.c2
  have c3 := hm2.c3
  have c4 := hm2.c4
  have c5 := hm2.c5
  have f0 := Blk.frozen hm2 0
  have f1 := Blk.frozen hm2 1
  have f2 := Blk.frozen hm2 2
  have f3 := Blk.frozen hm2 3
  have f4 := Blk.frozen hm2 4
  have f5 := Blk.frozen hm2 5
  have e0 := hn2.c0
  have e1 := hn2.c1
  have e2 := hn2.c2
  have e3 := hn2.c3
  have e4 := hn2.c4
  have e5 := hn2.c5
  go_wp2
  go_ret2
  exact ⟨rfl, (((((hm2.set_ 0 _).set_ 1 _).set_ 2 _).set_ 3 _).set_ 4 _).set_ 5 _, ((((((Only.of_below hw2 b).set_ 0 _).set_ 1 _).set_ 2 _).set_ 3 _).set_ 4 _).set_ 5 _⟩
theorem tell_take (b : Nat) (p : Nat) (B P ph N W T now v : Int) (w : World) (hb : Mk w b B P ph N W T) (ho : MOK B P ph N W T) (h1 : N ≤ now) (h2 : now < 4611686018427387904) 
    (hc : ∀ w1, Below w.heap.size w w1 → Calls Tryz.prog 174 #[.int .u64 (B - tkn W T ((now - ph) / P)), .pointer (some ⟨p, 0, none⟩)] w1 fun e w' => e = .returned (.tuple #[.int .u64 v, .int .i64 0]) ∧ Below w1.heap.size w1 w') :
    Calls Tryz.prog 172 #[.pointer (some ⟨b, 0, none⟩), .int .u64 now, (.func (Fn.func 174) #[] #[.pointer (some ⟨p, 0, none⟩)])] w fun e w' => e = .returned (.tuple #[.int .u64 v, .int .i64 0]) ∧ Mk w' b B P ph now ((now - ph) / P) (tkn W T ((now - ph) / P)) ∧ Only b w w' := by
  obtain ⟨g1, g2, g3, g4, g5, g6, g7⟩ := ho
  have bd := tkn_bd (W := W) (K := (now - ph) / P) g6 g7
  have HC := Lib.hid hc
  clear hc
  have c0 := hb.c0
  have c1 := hb.c1
  have c2 := hb.c2
  have c3 := hb.c3
  have c4 := hb.c4
  have c5 := hb.c5
  have hbl := hb.lt
  have d1 : decide (now < N) = false := decide_eq_false (by omega)
  go_enter Tryz.func172, Tryz.ntmps172
  go_wp2_with (first | (go_at_call 102; refine (tmay_yes _ _ h2).mono ?_; rintro e w' ⟨rfl, rfl⟩) | (go_at_call 183; refine (goOn_any w.heap.size B P ph N W T now _ (Blk.new _ _ _) g4 (by omega) h2 (by omega)).mono ?_; rintro e w1 ⟨rfl, hb1, ho1⟩; have e0 := hb1.c0; have e5 := hb1.c5))
  have hw1 : Below w.heap.size w w1 := ((Below.refl _ _).alloc (Nat.le_refl _) _).trans (ho1.below (Nat.le_refl _) (by simp))
  have hm1 : Mk w1 b B P ph N W T := ho1.blk (Blk.alloc hb _) (by omega)
  refine (HC.out _ hw1).mono ?_
  rintro e w2 ⟨rfl, hb2⟩
  have hm2 : Mk w2 b B P ph N W T := Blk.below hm1 hb2 hm1.lt
  have hn2 : Mk w2 w.heap.size B P ph now ((now - ph) / P) (tkn W T ((now - ph) / P)) := Blk.below hb1 hb2 hb1.lt
  have hw2 : Below w.heap.size w w2 := hw1.trans (hb2.mono hw1.size)
  clear c0 c1 c2 c3 c4 c5 e0 e5
  have c0 := hm2.c0
  have c1 := hm2.c1
  have c2 := hm2.c2
  have c3 := hm2.c3
  have c4 := hm2.c4
  have c5 := hm2.c5
  have f0 := Blk.frozen hm2 0
  have f1 := Blk.frozen hm2 1
  have f2 := Blk.frozen hm2 2
  have f3 := Blk.frozen hm2 3
  have f4 := Blk.frozen hm2 4
  have f5 := Blk.frozen hm2 5
  have e0 := hn2.c0
  have e1 := hn2.c1
  have e2 := hn2.c2
  have e3 := hn2.c3
  have e4 := hn2.c4
  have e5 := hn2.c5
  go_wp2
  go_ret2
  exact ⟨rfl, (((((hm2.set_ 0 _).set_ 1 _).set_ 2 _).set_ 3 _).set_ 4 _).set_ 5 _, ((((((Only.of_below hw2 b).set_ 0 _).set_ 1 _).set_ 2 _).set_ 3 _).set_ 4 _).set_ 5 _⟩
theorem left_then (l : Int) (w : World) : Calls Tryz.prog 173 #[.int .u64 l] w fun e w' => e = .returned (.tuple #[.int .u64 l, .int .i64 0]) ∧ Below w.heap.size w w' := by
  go_enter Tryz.func173, Tryz.ntmps173
  go_wp2
  go_ret2
  exact ⟨rfl, Below.refl _ _⟩
def mn (n l : Int) : Int := if n < l then n else l
theorem mn_bd {n l : Int} (h0 : 0 ≤ n) (h1 : 0 ≤ l) : 0 ≤ mn n l ∧ mn n l ≤ l ∧ mn n l ≤ n := by unfold mn; split <;> omega
theorem take_then (l n : Int) (p : Nat) (w : World) (hp : w.cell? ⟨p, 0, none⟩ = some (.int .u64 n)) : Calls Tryz.prog 174 #[.int .u64 l, .pointer (some ⟨p, 0, none⟩)] w fun e w' => e = .returned (.tuple #[.int .u64 (mn n l), .int .i64 0]) ∧ Below w.heap.size w w' := by
  by_cases h : n < l
  · have e : mn n l = n := if_pos h
    rw [e]
    clear e
    go_enter Tryz.func174, Tryz.ntmps174
    go_wp2
    go_ret2
    exact ⟨rfl, Below.refl _ _⟩
  · have e : mn n l = l := if_neg h
    rw [e]
    clear e
    by_cases h2 : l < n
    · go_enter Tryz.func174, Tryz.ntmps174
      go_wp2
      go_ret2
      exact ⟨rfl, Below.refl _ _⟩
    · obtain rfl : n = l := by omega
      go_enter Tryz.func174, Tryz.ntmps174
      go_wp2
      go_ret2
      exact ⟨rfl, Below.refl _ _⟩
theorem left_ok (b : Nat) (B P ph N W T now : Int) (w : World) (hb : Mk w b B P ph N W T) (ho : MOK B P ph N W T) (h1 : N ≤ now) (h2 : now < 4611686018427387904) :
    Calls Tryz.prog 154 #[.pointer (some ⟨b, 0, none⟩), .int .u64 now] w fun e w' => e = .returned (.tuple #[.int .u64 (B - tkn W T ((now - ph) / P)), .int .i64 0]) ∧ Mk w' b B P ph now ((now - ph) / P) (tkn W T ((now - ph) / P)) ∧ Only b w w' := by
  go_enter Tryz.func154, Tryz.ntmps154
  go_wp2_with fail
  refine (tell_left b B P ph N W T now _ _ hb ho h1 h2 fun w1 _ => left_then _ w1).mono ?_
  rintro e w1 ⟨rfl, hb1, ho1⟩
  go_wp2_with fail
  go_ret2
  exact ⟨rfl, hb1, ho1⟩
theorem take_ok (b : Nat) (B P ph N W T now n : Int) (w : World) (hb : Mk w b B P ph N W T) (ho : MOK B P ph N W T) (h1 : N ≤ now) (h2 : now < 4611686018427387904) (hn : 0 ≤ n) :
    Calls Tryz.prog 155 #[.pointer (some ⟨b, 0, none⟩), .int .u64 now, .int .u64 n] w fun e w' => e = .returned (.tuple #[.int .u64 (mn n (B - tkn W T ((now - ph) / P))), .int .i64 0]) ∧
      Mk w' b B P ph now ((now - ph) / P) (tkn W T ((now - ph) / P) + mn n (B - tkn W T ((now - ph) / P))) ∧ Only b w w' := by
  have hbl := hb.lt
  obtain ⟨g1, g2, g3, g4, g5, g6, g7⟩ := id ho
  have bd := tkn_bd (W := W) (K := (now - ph) / P) g6 g7
  have bd2 := mn_bd (n := n) (l := B - tkn W T ((now - ph) / P)) hn (by omega)
  go_enter Tryz.func155, Tryz.ntmps155
  go_wp2_with fail
  refine (tell_take b w.heap.size B P ph N W T now _ _ (Blk.alloc hb _) ho h1 h2 fun w1 hw1 => take_then _ n _ w1 ?_).mono ?_
  · exact (hw1.cell (p := ⟨w.heap.size, 0, none⟩) (by simp)).trans (by simp)
  · rintro e w1 ⟨rfl, hb1, ho1⟩
    generalize ht : tkn W T ((now - ph) / P) = t at *
    generalize hm : mn n (B - t) = m at *
    have HT := Lib.hid ht
    have HM := Lib.hid hm
    clear ht hm
    have c5 := hb1.c5
    have f5 := Blk.frozen hb1 5
    go_wp2
    go_ret2
    exact ⟨by rw [HT.out, HM.out]; rfl, by rw [HT.out, HM.out]; exact Blk.set_ hb1 5 _, (((Only.refl _ _).alloc _).trans ho1).set_ 5 _⟩
end
section
set_option linter.unusedVariables false
theorem below_only {B b : Nat} {w0 w w' : World} (h : Below B w0 w) (ho : Only b w w') (hb : B ≤ b) (hs : B ≤ w0.heap.size) : Below B w0 w' :=
  h.trans (ho.below hb (Nat.le_trans hs h.size))
theorem tmay_no (t : Int) (w : World) (h : ¬ t < 4611686018427387904) : Calls Tryz.prog 102 #[.int .u64 t] w fun e w' => e = .returned (.bool false) ∧ w = w' :=
  (may_any t w).mono fun _ _ ⟨he, hw⟩ => ⟨by rw [he, decide_eq_false h], hw⟩
theorem new_ok (B P ph : Int) (w : World) (h : 1 ≤ B ∧ B ≤ P ∧ P ≤ 1099511627776) (hp : ph < 4611686018427387904) :
    Calls Tryz.prog 89 #[.agg #[.int .u64 B, .int .u64 P], .int .u64 ph] w fun r w' => ∃ b, w.heap.size ≤ b ∧ r = .returned (.tuple #[.pointer (some ⟨b, 0, none⟩), .int .i64 0]) ∧ Mk w' b B P ph ph 0 0 ∧ Below w.heap.size w w' := by
  go_enter Tryz.func89, Tryz.ntmps89
  go_wp2_with (first | (go_at_call 140; refine (may_yes B P _ h).mono ?_; rintro e w1 ⟨rfl, hw1⟩; have c0 := boxed hw1 0; have c1 := boxed hw1 1; simp at c0 c1) | (go_at_call 102; refine (tmay_yes _ _ hp).mono ?_; rintro e w' ⟨rfl, rfl⟩))
  have hb := below_box hw1
  go_ret2
  exact ⟨w1.heap.size, hb.size, rfl, Blk.new _ _ _, hb.alloc hb.size _⟩
theorem new_arg (B P ph : Int) (w : World) (h : ¬ (1 ≤ B ∧ B ≤ P ∧ P ≤ 1099511627776)) :
    Calls Tryz.prog 89 #[.agg #[.int .u64 B, .int .u64 P], .int .u64 ph] w fun r w' => r = .returned (.tuple #[.pointer none, .int .i64 1]) ∧ Below w.heap.size w w' := by
  go_enter Tryz.func89, Tryz.ntmps89
  go_wp2_with (go_at_call 140; refine (may_no B P _ h).mono ?_; rintro e w1 ⟨rfl, hw1⟩; have c0 := boxed hw1 0; have c1 := boxed hw1 1; simp at c0 c1)
  go_ret2
  exact ⟨rfl, below_box hw1⟩
theorem new_hor (B P ph : Int) (w : World) (h : 1 ≤ B ∧ B ≤ P ∧ P ≤ 1099511627776) (hp : ¬ ph < 4611686018427387904) :
    Calls Tryz.prog 89 #[.agg #[.int .u64 B, .int .u64 P], .int .u64 ph] w fun r w' => r = .returned (.tuple #[.pointer none, .int .i64 2]) ∧ Below w.heap.size w w' := by
  go_enter Tryz.func89, Tryz.ntmps89
  go_wp2_with (first | (go_at_call 140; refine (may_yes B P _ h).mono ?_; rintro e w1 ⟨rfl, hw1⟩; have c0 := boxed hw1 0; have c1 := boxed hw1 1; simp at c0 c1) | (go_at_call 102; refine (tmay_no _ _ (by omega)).mono ?_; rintro e w' ⟨rfl, rfl⟩))
  go_ret2
  exact ⟨rfl, below_box hw1⟩
/-- The bound of a span. -/
def mst (B P s : Int) : Int := mn (B * (tUp s P + 1)) s
theorem mul_bd {B P s : Int} (h : 1 ≤ B ∧ B ≤ P ∧ P ≤ 1099511627776) (h0 : 0 ≤ s) : 0 ≤ B * (tUp s P + 1) ∧ B * (tUp s P + 1) ≤ s + 2 * P := by
  have hu := tUp_nonneg h0 (show 1 ≤ P by omega)
  have hl := tUp_least (n := s) (show 1 ≤ P by omega)
  refine ⟨Int.mul_nonneg (by omega) (by omega), ?_⟩
  have h1 : B * (tUp s P + 1) ≤ P * (tUp s P + 1) := Int.mul_le_mul_of_nonneg_right h.2.1 (by omega)
  have h2 : P * (tUp s P + 1) = (tUp s P - 1) * P + 2 * P := by rw [Int.sub_mul, Int.mul_add, Int.mul_comm P]; omega
  omega
theorem take_g (b : Nat) (B P ph N W T now n K t v : Int) (w : World) (hb : Mk w b B P ph N W T) (ho : MOK B P ph N W T) (h1 : N ≤ now) (h2 : now < 4611686018427387904) (hn : 0 ≤ n) (hK : (now - ph) / P = K) (ht : tkn W T K = t) (hv : mn n (B - t) = v) :
    Calls Tryz.prog 155 #[.pointer (some ⟨b, 0, none⟩), .int .u64 now, .int .u64 n] w fun e w' => e = .returned (.tuple #[.int .u64 v, .int .i64 0]) ∧ Mk w' b B P ph now K (t + v) ∧ Only b w w' := by
  subst hK; subst ht; subst hv; exact take_ok b B P ph N W T now n w hb ho h1 h2 hn
theorem left_g (b : Nat) (B P ph N W T now K t v : Int) (w : World) (hb : Mk w b B P ph N W T) (ho : MOK B P ph N W T) (h1 : N ≤ now) (h2 : now < 4611686018427387904) (hK : (now - ph) / P = K) (ht : tkn W T K = t) (hv : B - t = v) :
    Calls Tryz.prog 154 #[.pointer (some ⟨b, 0, none⟩), .int .u64 now] w fun e w' => e = .returned (.tuple #[.int .u64 v, .int .i64 0]) ∧ Mk w' b B P ph now K t ∧ Only b w w' := by
  subst hK; subst ht; subst hv; exact left_ok b B P ph N W T now w hb ho h1 h2
/-- Windows and times. -/
theorem win_at {ph P k : Int} (hP : 1 ≤ P) : (ph + k * P - ph) / P = k := by
  rw [show ph + k * P - ph = k * P by omega, Int.mul_ediv_cancel _ (by omega)]
theorem win_in {ph P k d : Int} (hd : 0 ≤ d) (hd2 : d < P) : (ph + k * P + d - ph) / P = k := by
  rw [show ph + k * P + d - ph = d + k * P by omega, Int.add_mul_ediv_right _ _ (by omega), Int.ediv_eq_zero_of_lt hd hd2]; omega
end
section
set_option linter.unusedVariables false
theorem rsmay_yes (B P : Int) (w : World) (h : 1 ≤ B ∧ B ≤ P ∧ P ≤ 1099511627776) :
    Calls Tryz.prog 85 #[.agg #[.int .u64 B, .int .u64 P]] w fun e w' => e = .returned (.bool true) ∧ Below w.heap.size w w' := by
  have d1 : decide (0 < B) = true := decide_eq_true (by omega)
  have d2 : decide (P ≤ 1099511627776) = true := decide_eq_true h.2.2
  have d4 : decide (B ≤ P) = true := decide_eq_true h.2.1
  go_enter Tryz.func85, Tryz.ntmps85
  go_wp2
  go_ret
  exact ⟨rfl, (Below.refl _ _).alloc (Nat.le_refl _) _⟩
theorem rsmay_no (B P : Int) (w : World) (h : ¬ (1 ≤ B ∧ B ≤ P ∧ P ≤ 1099511627776)) :
    Calls Tryz.prog 85 #[.agg #[.int .u64 B, .int .u64 P]] w fun e w' => e = .returned (.bool false) ∧ Below w.heap.size w w' := by
  by_cases h1 : 0 < B
  · have d1 : decide (0 < B) = true := decide_eq_true h1
    by_cases h4 : B ≤ P
    · have d4 : decide (B ≤ P) = true := decide_eq_true h4
      have d2 : decide (P ≤ 1099511627776) = false := decide_eq_false (by omega)
      clear h
      go_enter Tryz.func85, Tryz.ntmps85
      go_wp2
      go_ret
      exact ⟨rfl, (Below.refl _ _).alloc (Nat.le_refl _) _⟩
    · have d4 : decide (B ≤ P) = false := decide_eq_false h4
      clear h
      go_enter Tryz.func85, Tryz.ntmps85
      go_wp2
      go_ret
      exact ⟨rfl, (Below.refl _ _).alloc (Nat.le_refl _) _⟩
  · have d1 : decide (0 < B) = false := decide_eq_false h1
    clear h
    go_enter Tryz.func85, Tryz.ntmps85
    go_wp2
    go_ret
    exact ⟨rfl, (Below.refl _ _).alloc (Nat.le_refl _) _⟩
theorem rmost_none (B P s : Int) (w : World) (h : ¬ (1 ≤ B ∧ B ≤ P ∧ P ≤ 1099511627776) ∨ 1099511627776 < s) :
    Calls Tryz.prog 29 #[.agg #[.int .u64 B, .int .u64 P], .int .u64 s] w fun r w' => r = .returned (.int .u64 0) ∧ Below w.heap.size w w' := by
  by_cases hg : 1 ≤ B ∧ B ≤ P ∧ P ≤ 1099511627776
  · have d1 : decide (1099511627776 < s) = true := decide_eq_true (by omega)
    clear h
    go_enter Tryz.func29, Tryz.ntmps29
    go_wp2_with (go_at_call 85; refine (rsmay_yes B P _ hg).mono ?_; rintro e w1 ⟨rfl, hw1⟩; have c0 := boxed hw1 0; have c1 := boxed hw1 1; simp at c0 c1)
    go_ret
    exact ⟨rfl, below_box hw1⟩
  · clear h
    go_enter Tryz.func29, Tryz.ntmps29
    go_wp2_with (go_at_call 85; refine (rsmay_no B P _ hg).mono ?_; rintro e w1 ⟨rfl, hw1⟩; have c0 := boxed hw1 0; have c1 := boxed hw1 1; simp at c0 c1)
    go_ret
    exact ⟨rfl, below_box hw1⟩
theorem rmost_any (B P s : Int) (w : World) (h : 1 ≤ B ∧ B ≤ P ∧ P ≤ 1099511627776) (h0 : 0 ≤ s) (hs : s ≤ 1099511627776) :
    Calls Tryz.prog 29 #[.agg #[.int .u64 B, .int .u64 P], .int .u64 s] w fun r w' => r = .returned (.int .u64 (mst B P s)) ∧ Below w.heap.size w w' := by
  have hu := tUp_nonneg h0 (show 1 ≤ P by omega)
  have hu2 := tUp_le h0 (show 1 ≤ P by omega)
  obtain ⟨m0, m1⟩ := mul_bd h h0
  have d1 : decide (1099511627776 < s) = false := decide_eq_false (by omega)
  have z0 : (B == 0) = false := beq_eq_false_iff_ne.2 (by omega)
  have q0 : 0 ≤ 1099511627776 / B := Int.ediv_nonneg (by omega) (by omega)
  have q1 : 1099511627776 / B ≤ 1099511627776 := Int.ediv_le_self _ (by omega)
  have UP := Lib.hid fun w => rup_any s P w h0 (by omega) (by omega)
  rw [Int.mul_comm] at m0 m1
  have hmst : mst B P s = if (tUp s P + 1) * B < s then (tUp s P + 1) * B else s := by unfold mst mn; rw [Int.mul_comm B]
  by_cases hbig : 1099511627776 / B + 2 < tUp s P + 1
  · have hs2 : ¬ (tUp s P + 1) * B < s := by
      have e := Int.mul_ediv_add_emod 1099511627776 B
      have r1 := Int.emod_lt_of_pos 1099511627776 (show 0 < B by omega)
      have : (1099511627776 / B + 2) * B ≤ (tUp s P + 1) * B := Int.mul_le_mul_of_nonneg_right (by omega) (by omega)
      rw [Int.add_mul, Int.mul_comm (1099511627776 / B)] at this
      omega
    rw [if_neg hs2] at hmst
    rw [hmst]
    clear hmst hs2
    generalize tUp s P = u at *
    have db : decide (1099511627776 / B + 2 < u + 1) = true := decide_eq_true hbig
    go_enter Tryz.func29, Tryz.ntmps29
    go_wp2_with (first | (go_at_call 85; refine (rsmay_yes B P _ h).mono ?_; rintro e w1 ⟨rfl, hw1⟩; have c0 := boxed hw1 0; have c1 := boxed hw1 1; simp at c0 c1) | (go_at_call 86; refine (UP.out _).mono ?_; rintro e w' ⟨rfl, rfl⟩))
    go_ret
    exact ⟨rfl, below_box hw1⟩
  · by_cases hlt : (tUp s P + 1) * B < s
    · rw [if_pos hlt] at hmst
      rw [hmst]
      clear hmst
      generalize tUp s P = u at *
      have db : decide (1099511627776 / B + 2 < u + 1) = false := decide_eq_false hbig
      have dl : decide ((u + 1) * B < s) = true := decide_eq_true hlt
      go_enter Tryz.func29, Tryz.ntmps29
      go_wp2_with (first | (go_at_call 85; refine (rsmay_yes B P _ h).mono ?_; rintro e w1 ⟨rfl, hw1⟩; have c0 := boxed hw1 0; have c1 := boxed hw1 1; simp at c0 c1) | (go_at_call 86; refine (UP.out _).mono ?_; rintro e w' ⟨rfl, rfl⟩))
      go_ret
      exact ⟨rfl, below_box hw1⟩
    · rw [if_neg hlt] at hmst
      rw [hmst]
      clear hmst
      generalize tUp s P = u at *
      have db : decide (1099511627776 / B + 2 < u + 1) = false := decide_eq_false hbig
      have dl : decide ((u + 1) * B < s) = false := decide_eq_false hlt
      go_enter Tryz.func29, Tryz.ntmps29
      go_wp2_with (first | (go_at_call 85; refine (rsmay_yes B P _ h).mono ?_; rintro e w1 ⟨rfl, hw1⟩; have c0 := boxed hw1 0; have c1 := boxed hw1 1; simp at c0 c1) | (go_at_call 86; refine (UP.out _).mono ?_; rintro e w' ⟨rfl, rfl⟩))
      go_ret
      exact ⟨rfl, below_box hw1⟩
end
section
set_option linter.unusedVariables false
set_option maxRecDepth 100000
/-- What was taken in window K. -/
def sw (K : Int) : List (Int × Int) → Int
  | [] => 0
  | p :: ws => (if p.1 = K then p.2 else 0) + sw K ws
theorem sw_app (K : Int) (ws : List (Int × Int)) (p : Int × Int) : sw K (ws ++ [p]) = sw K ws + (if p.1 = K then p.2 else 0) := by
  induction ws with
  | nil => simp [sw]
  | cons q ws ih => simp only [List.cons_append, sw, ih]; omega
theorem sw_pos {ws : List (Int × Int)} (h : ∀ p ∈ ws, 0 ≤ p.2) (K : Int) : 0 ≤ sw K ws := by
  induction ws with
  | nil => simp [sw]
  | cons q ws ih =>
    have := ih fun p hp => h p (by simp [hp])
    have := h q (by simp)
    unfold sw; split <;> omega
theorem sw_take_le {ws : List (Int × Int)} (h : ∀ p ∈ ws, 0 ≤ p.2) (K : Int) (i : Nat) : sw K (ws.take i) ≤ sw K ws := by
  induction ws generalizing i with
  | nil => simp
  | cons q ws ih =>
    cases i with
    | zero => have := sw_pos h K; simpa [sw] using this
    | succ i =>
      have := ih (fun p hp => h p (by simp [hp])) i
      simp only [List.take_succ_cons, sw]; omega
theorem sw_zero {ws : List (Int × Int)} {W K : Int} (h : ∀ p ∈ ws, p.1 ≤ W) (hK : W < K) : sw K ws = 0 := by
  induction ws with
  | nil => rfl
  | cons q ws ih =>
    have := ih fun p hp => h p (by simp [hp])
    have := h q (by simp)
    unfold sw; rw [if_neg (by omega)]; omega
/-- What holds between two calls: each window's takes are within the budget; no window is later than the time's. -/
structure XOK (B P ph N : Int) (ws : List (Int × Int)) : Prop where
  share : 1 ≤ B ∧ B ≤ P ∧ P ≤ 1099511627776
  n : 0 ≤ ph ∧ ph ≤ N ∧ N < 4611686018427387904
  win : ∀ p ∈ ws, 0 ≤ p.1 ∧ p.1 ≤ (N - ph) / P ∧ 0 ≤ p.2
  most : ∀ K, sw K ws ≤ B
/-- What is left, if it is told. -/
def LeftR (B P ph N : Int) (ws : List (Int × Int)) (now v f N' : Int) : Prop :=
  (¬ now < 4611686018427387904 ∧ v = 0 ∧ f = 2 ∧ N' = N) ∨ (now < 4611686018427387904 ∧ now < N ∧ v = 0 ∧ f = 1 ∧ N' = N) ∨ (now < 4611686018427387904 ∧ N ≤ now ∧ v = B - sw ((now - ph) / P) ws ∧ f = 0 ∧ N' = now)
theorem leftR_ex (B P ph N : Int) (ws : List (Int × Int)) (now : Int) : ∃ v f N', LeftR B P ph N ws now v f N' := by
  by_cases h1 : now < 4611686018427387904
  · by_cases h2 : now < N
    · exact ⟨_, _, _, Or.inr (Or.inl ⟨h1, h2, rfl, rfl, rfl⟩)⟩
    · exact ⟨_, _, _, Or.inr (Or.inr ⟨h1, by omega, rfl, rfl, rfl⟩)⟩
  · exact ⟨_, _, _, Or.inl ⟨h1, rfl, rfl, rfl⟩⟩
theorem LeftR.xok {B P ph N now v f N' : Int} {ws : List (Int × Int)} (hR : LeftR B P ph N ws now v f N') (h : XOK B P ph N ws) : XOK B P ph N' ws := by
  rcases hR with ⟨_, _, _, rfl⟩ | ⟨_, _, _, _, rfl⟩ | ⟨h1, h2, _, _, rfl⟩
  · exact h
  · exact h
  · refine ⟨h.share, ⟨h.n.1, by have := h.n; omega, h1⟩, fun p hp => ?_, h.most⟩
    obtain ⟨a, b, c⟩ := h.win p hp
    have : (N - ph) / P ≤ (N' - ph) / P := Int.ediv_le_ediv (by have := h.share; omega) (by omega)
    exact ⟨a, by omega, c⟩
theorem XOK.put {B P ph N n : Int} {ws : List (Int × Int)} (h : XOK B P ph N ws) (h0 : 0 ≤ n) (h1 : n ≤ B - sw ((N - ph) / P) ws) : XOK B P ph N (ws ++ [((N - ph) / P, n)]) := by
  refine ⟨h.share, h.n, fun p hp => ?_, fun K => ?_⟩
  · rcases List.mem_append.1 hp with hp | hp
    · exact h.win p hp
    · simp at hp; subst hp
      exact ⟨Int.ediv_nonneg (by have := h.n; omega) (by have := h.share; omega), Int.le_refl _, h0⟩
  · rw [sw_app]
    split
    · rename_i e; rw [← e]; dsimp only; omega
    · have := h.most K; omega
/-- A meter. -/
def MetR (b : Nat) (B P ph N : Int) (ws : List (Int × Int)) : Res := fun w S => ∃ W, Mk w b B P ph N W (sw W ws) ∧ (∀ p ∈ ws, p.1 ≤ W) ∧ W ≤ (N - ph) / P ∧ ∀ c, S c ↔ c = b
theorem MetR.ok (b : Nat) (B P ph N : Int) (ws : List (Int × Int)) : Ok (MetR b B P ph N ws) :=
  ⟨fun ⟨W, h, _, _, hs⟩ c hc => by rw [(hs c).1 hc]; exact Blk.lt h, fun ⟨W, h, h1, h2, hs⟩ hk => ⟨W, (hk b ((hs b).2 rfl)).trans h, h1, h2, hs⟩⟩
theorem tkn_sw {W K : Int} {ws : List (Int × Int)} (h : ∀ p ∈ ws, p.1 ≤ W) (hK : W ≤ K) : tkn W (sw W ws) K = sw K ws := by
  unfold tkn
  by_cases e : W = K
  · rw [if_pos e, e]
  · rw [if_neg e, sw_zero h (by omega)]
section
variable {w0 w w' : World} {S0 : Nat → Prop} {L : List Res} {b : Nat} {B P ph N now n v f N' : Int} {ws : List (Int × Int)}
theorem left_hor (b : Nat) (now : Int) (w : World) (hl : ¬ now < 4611686018427387904) :
    Calls Tryz.prog 154 #[.pointer (some ⟨b, 0, none⟩), .int .u64 now] w fun e w' => e = .returned (.tuple #[.int .u64 0, .int .i64 2]) ∧ Below w.heap.size w w' := by
  go_enter Tryz.func154, Tryz.ntmps154
  go_wp2_with (first | (go_at_call 102; refine (tmay_no _ _ hl).mono ?_; rintro e w' ⟨rfl, rfl⟩) | go_in)
  go_ret2
  exact ⟨rfl, Below.refl _ _⟩
theorem left_arg (b : Nat) (B P ph N W T now : Int) (w : World) (hb : Mk w b B P ph N W T) (hl : now < 4611686018427387904) (hN : now < N) :
    Calls Tryz.prog 154 #[.pointer (some ⟨b, 0, none⟩), .int .u64 now] w fun e w' => e = .returned (.tuple #[.int .u64 0, .int .i64 1]) ∧ Below w.heap.size w w' := by
  have c3 := hb.c3
  have d1 : decide (now < N) = true := decide_eq_true hN
  go_enter Tryz.func154, Tryz.ntmps154
  go_wp2_with (first | (go_at_call 102; refine (tmay_yes _ _ hl).mono ?_; rintro e w' ⟨rfl, rfl⟩) | go_in)
  go_ret2
  exact ⟨rfl, Below.refl _ _⟩
theorem take_hor (b : Nat) (B P ph N W T now n : Int) (w : World) (hb : Mk w b B P ph N W T) (hT : 0 ≤ T ∧ T ≤ 1099511627776) (hl : ¬ now < 4611686018427387904) :
    Calls Tryz.prog 155 #[.pointer (some ⟨b, 0, none⟩), .int .u64 now, .int .u64 n] w fun e w' => e = .returned (.tuple #[.int .u64 0, .int .i64 2]) ∧ Mk w' b B P ph N W T ∧ Only b w w' := by
  have hbl := Blk.lt hb
  have h1 : Mk (w.alloc (.cells #[.int .u64 n] 34)) b B P ph N W T := Blk.alloc hb _
  have c5 := h1.c5
  have f5 := Blk.frozen h1 5
  go_enter Tryz.func155, Tryz.ntmps155
  go_wp2_with (first | (go_at_call 102; refine (tmay_no _ _ hl).mono ?_; rintro e w' ⟨rfl, rfl⟩) | go_in)
  go_ret2
  refine ⟨rfl, Blk.alloc ?_ _, ((Only.refl _ _).set_ 5 _).alloc _⟩
  have := Blk.set_ hb 5 (.int .u64 T)
  simpa [Mk] using this
theorem take_arg (b : Nat) (B P ph N W T now n : Int) (w : World) (hb : Mk w b B P ph N W T) (hT : 0 ≤ T ∧ T ≤ 1099511627776) (hl : now < 4611686018427387904) (hN : now < N) :
    Calls Tryz.prog 155 #[.pointer (some ⟨b, 0, none⟩), .int .u64 now, .int .u64 n] w fun e w' => e = .returned (.tuple #[.int .u64 0, .int .i64 1]) ∧ Mk w' b B P ph N W T ∧ Only b w w' := by
  have hbl := Blk.lt hb
  have h1 : Mk (w.alloc (.cells #[.int .u64 n] 34)) b B P ph N W T := Blk.alloc hb _
  have c3 := h1.c3
  have c5 := h1.c5
  have f5 := Blk.frozen h1 5
  have d1 : decide (now < N) = true := decide_eq_true hN
  go_enter Tryz.func155, Tryz.ntmps155
  go_wp2_with (first | (go_at_call 102; refine (tmay_yes _ _ hl).mono ?_; rintro e w' ⟨rfl, rfl⟩) | go_in)
  go_ret2
  refine ⟨rfl, Blk.alloc ?_ _, ((Only.refl _ _).set_ 5 _).alloc _⟩
  have := Blk.set_ hb 5 (.int .u64 T)
  simpa [Mk] using this
theorem met_new (Hs : St w0 S0 w L) (h : 1 ≤ B ∧ B ≤ P ∧ P ≤ 1099511627776) (hp0 : 0 ≤ ph) (hp : ph < 4611686018427387904) :
    Calls Tryz.prog 89 #[.agg #[.int .u64 B, .int .u64 P], .int .u64 ph] w fun r w' => ∃ b, r = .returned (.tuple #[.pointer (some ⟨b, 0, none⟩), .int .i64 0]) ∧ St w0 S0 w' (L ++ [MetR b B P ph ph []]) :=
  (new_ok B P ph w h hp).mono fun r w' ⟨b, hb, he, hm, hw⟩ => ⟨b, he, Hs.more hw (Star.one (MetR.ok _ _ _ _ _ _) ⟨0, hm, fun p hp => by simp at hp, by simp, fun c => Iff.rfl⟩) fun c hc => by have hc : c = b := hc; omega⟩
theorem met_ok (h : XOK B P ph N ws) {W : Int} (hw : ∀ p ∈ ws, p.1 ≤ W) : MOK B P ph N W (sw W ws) := ⟨h.share.1, h.share.2.1, h.share.2.2, h.n.1, h.n.2.1, sw_pos (fun p hp => (h.win p hp).2.2) W, h.most W⟩
theorem met_left (Hs : St w0 S0 w L) (i : Nat) (hi : L[i]? = some (MetR b B P ph N ws)) (ho : XOK B P ph N ws) (hR : LeftR B P ph N ws now v f N') :
    Calls Tryz.prog 154 #[.pointer (some ⟨b, 0, none⟩), .int .u64 now] w fun e w' => e = .returned (.tuple #[.int .u64 v, .int .i64 f]) ∧ St w0 S0 w' (L.set i (MetR b B P ph N' ws)) := by
  refine St.call (R := MetR b B P ph N ws) (Post := fun e => e = .returned (.tuple #[.int .u64 v, .int .i64 f])) (fun w S ⟨W, h1, h2, h3, hs⟩ => ?_) (MetR.ok _ _ _ _ _ _) Hs i hi
  rcases hR with ⟨g1, rfl, rfl, rfl⟩ | ⟨g1, g2, rfl, rfl, rfl⟩ | ⟨g1, g2, rfl, rfl, rfl⟩
  · exact (left_hor b now w g1).mono fun e w' ⟨he, hb⟩ => ⟨he, S, ⟨W, Blk.stay h1 hb, h2, h3, hs⟩, Did.below hb⟩
  · exact (left_arg b B P ph N' W _ now w h1 g1 g2).mono fun e w' ⟨he, hb⟩ => ⟨he, S, ⟨W, Blk.stay h1 hb, h2, h3, hs⟩, Did.below hb⟩
  · have hK : (N - ph) / P ≤ (N' - ph) / P := Int.ediv_le_ediv (by have := ho.share; omega) (by omega)
    have C := left_ok b B P ph N W _ N' w h1 (met_ok ho h2) g2 g1
    rw [tkn_sw h2 (by omega)] at C
    exact C.mono fun e w' ⟨he, hb, hO⟩ => ⟨he, S, ⟨_, hb, fun p hp => by have := h2 p hp; omega, Int.le_refl _, hs⟩, Did.of_only hO ((hs b).2 rfl) fun c hc => Or.inl hc⟩
/-- A take: refused, or so many of what is left. -/
def TakeR (B P ph N : Int) (ws : List (Int × Int)) (now n v f N' : Int) (ws' : List (Int × Int)) : Prop :=
  ∃ l, LeftR B P ph N ws now l f N' ∧ ((f ≠ 0 ∧ v = 0 ∧ ws' = ws) ∨ (f = 0 ∧ v = mn n l ∧ ws' = ws ++ [((now - ph) / P, v)]))
theorem takeR_ex (B P ph N : Int) (ws : List (Int × Int)) (now n : Int) : ∃ v f N' ws', TakeR B P ph N ws now n v f N' ws' := by
  obtain ⟨l, f, N', h⟩ := leftR_ex B P ph N ws now
  by_cases hf : f = 0
  · exact ⟨_, f, N', _, l, h, Or.inr ⟨hf, rfl, rfl⟩⟩
  · exact ⟨_, f, N', _, l, h, Or.inl ⟨hf, rfl, rfl⟩⟩
theorem LeftR.ok {B P ph N now v f N' : Int} {ws : List (Int × Int)} (h : LeftR B P ph N ws now v f N') (hf : f = 0) : now < 4611686018427387904 ∧ N ≤ now ∧ v = B - sw ((now - ph) / P) ws ∧ N' = now := by
  rcases h with ⟨_, _, h, _⟩ | ⟨_, _, _, h, _⟩ | ⟨h1, h2, h3, _, h4⟩
  · omega
  · omega
  · exact ⟨h1, h2, h3, h4⟩
theorem TakeR.xok {ws' : List (Int × Int)} (hR : TakeR B P ph N ws now n v f N' ws') (hn : 0 ≤ n) (h : XOK B P ph N ws) : XOK B P ph N' ws' := by
  obtain ⟨l, hL, ⟨_, _, rfl⟩ | ⟨h1, h2, rfl⟩⟩ := hR
  · exact hL.xok h
  · have hx := hL.xok h
    obtain ⟨_, _, h3, rfl⟩ := hL.ok h1
    have := h.most ((N' - ph) / P)
    have hb := mn_bd (n := n) (l := l) hn (by omega)
    exact hx.put (by omega) (by omega)
theorem met_take {ws' : List (Int × Int)} (Hs : St w0 S0 w L) (i : Nat) (hi : L[i]? = some (MetR b B P ph N ws)) (ho : XOK B P ph N ws) (hn : 0 ≤ n) (hR : TakeR B P ph N ws now n v f N' ws') :
    Calls Tryz.prog 155 #[.pointer (some ⟨b, 0, none⟩), .int .u64 now, .int .u64 n] w fun e w' => e = .returned (.tuple #[.int .u64 v, .int .i64 f]) ∧ St w0 S0 w' (L.set i (MetR b B P ph N' ws')) := by
  refine St.call (R := MetR b B P ph N ws) (Post := fun e => e = .returned (.tuple #[.int .u64 v, .int .i64 f])) (fun w S ⟨W, h1, h2, h3, hs⟩ => ?_) (MetR.ok _ _ _ _ _ _) Hs i hi
  have hM := met_ok ho h2
  have hT : 0 ≤ sw W ws ∧ sw W ws ≤ 1099511627776 := ⟨hM.2.2.2.2.2.1, by have := hM.2.2.2.2.2.2; have := ho.share; omega⟩
  obtain ⟨l, hL, hh⟩ := hR
  rcases hL with ⟨g1, rfl, rfl, rfl⟩ | ⟨g1, g2, rfl, rfl, rfl⟩ | ⟨g1, g2, rfl, rfl, rfl⟩
  · obtain ⟨_, rfl, rfl⟩ | ⟨k, _⟩ := hh
    · exact (take_hor b B P ph N' W _ now n w h1 hT g1).mono fun e w' ⟨he, hb, hO⟩ => ⟨he, S, ⟨W, hb, h2, h3, hs⟩, Did.of_only hO ((hs b).2 rfl) fun c hc => Or.inl hc⟩
    · omega
  · obtain ⟨_, rfl, rfl⟩ | ⟨k, _⟩ := hh
    · exact (take_arg b B P ph N' W _ now n w h1 hT g1 g2).mono fun e w' ⟨he, hb, hO⟩ => ⟨he, S, ⟨W, hb, h2, h3, hs⟩, Did.of_only hO ((hs b).2 rfl) fun c hc => Or.inl hc⟩
    · omega
  · obtain ⟨k, _⟩ | ⟨_, rfl, rfl⟩ := hh
    · omega
    · have hK : (N - ph) / P ≤ (N' - ph) / P := Int.ediv_le_ediv (by have := ho.share; omega) (by omega)
      have C := take_ok b B P ph N W _ N' n w h1 hM g2 g1 hn
      rw [tkn_sw h2 (by omega)] at C
      refine C.mono fun e w' ⟨he, hb, hO⟩ => ⟨he, S, ⟨(N' - ph) / P, ?_, fun p hp => ?_, Int.le_refl _, hs⟩, Did.of_only hO ((hs b).2 rfl) fun c hc => Or.inl hc⟩
      · rw [sw_app, if_pos rfl]; exact hb
      · rcases List.mem_append.1 hp with hp | hp
        · have := h2 p hp; omega
        · simp at hp; subst hp; exact Int.le_refl _
/-- A wait: the answer, and the time that is known then. The document's own meter knows the time also where the next window isn't a time. -/
def WaitR (B P ph N : Int) (ws : List (Int × Int)) (now v f N' M' : Int) : Prop :=
  ∃ l g N1, LeftR B P ph N ws now l g N1 ∧ ((g ≠ 0 ∧ v = 0 ∧ f = g ∧ N' = N1 ∧ M' = N1) ∨ (g = 0 ∧ 0 < l ∧ v = now ∧ f = 0 ∧ N' = N1 ∧ M' = N1) ∨
    (g = 0 ∧ l = 0 ∧ ph + (now - ph) / P * P + P < 4611686018427387904 ∧ v = ph + (now - ph) / P * P + P ∧ f = 0 ∧ N' = N1 ∧ M' = N1) ∨ (g = 0 ∧ l = 0 ∧ 4611686018427387904 ≤ ph + (now - ph) / P * P + P ∧ v = 0 ∧ f = 2 ∧ N' = N ∧ M' = N1))
theorem waitR_ex (ho : XOK B P ph N ws) (now : Int) : ∃ v f N' M', WaitR B P ph N ws now v f N' M' := by
  obtain ⟨l, g, N1, h⟩ := leftR_ex B P ph N ws now
  by_cases hg : g = 0
  · have hl : 0 ≤ l := by have := h.ok hg; have := ho.most ((now - ph) / P); omega
    by_cases h0 : l = 0
    · by_cases hx : ph + (now - ph) / P * P + P < 4611686018427387904
      · exact ⟨_, _, _, _, l, g, N1, h, Or.inr (Or.inr (Or.inl ⟨hg, h0, hx, rfl, rfl, rfl, rfl⟩))⟩
      · exact ⟨_, _, _, _, l, g, N1, h, Or.inr (Or.inr (Or.inr ⟨hg, h0, by omega, rfl, rfl, rfl, rfl⟩))⟩
    · exact ⟨_, _, _, _, l, g, N1, h, Or.inr (Or.inl ⟨hg, by omega, rfl, rfl, rfl, rfl⟩)⟩
  · exact ⟨_, _, _, _, l, g, N1, h, Or.inl ⟨hg, rfl, rfl, rfl, rfl⟩⟩
/-- Behind a wait both tell the same of what is left at that time. -/
theorem WaitR.left {M' : Int} (hR : WaitR B P ph N ws now v f N' M') : ∃ x g N2, LeftR B P ph N' ws now x g N2 ∧ LeftR B P ph M' ws now x g N2 := by
  obtain ⟨l, g, N1, hL, hh⟩ := hR
  rcases hL with ⟨g1, rfl, rfl, rfl⟩ | ⟨g1, g2, rfl, rfl, rfl⟩ | ⟨g1, g2, rfl, rfl, rfl⟩
  · rcases hh with ⟨_, _, _, rfl, rfl⟩ | ⟨h, _⟩ | ⟨h, _⟩ | ⟨h, _⟩
    · exact ⟨_, _, _, Or.inl ⟨g1, rfl, rfl, rfl⟩, Or.inl ⟨g1, rfl, rfl, rfl⟩⟩
    all_goals omega
  · rcases hh with ⟨_, _, _, rfl, rfl⟩ | ⟨h, _⟩ | ⟨h, _⟩ | ⟨h, _⟩
    · exact ⟨_, _, _, Or.inr (Or.inl ⟨g1, g2, rfl, rfl, rfl⟩), Or.inr (Or.inl ⟨g1, g2, rfl, rfl, rfl⟩)⟩
    all_goals omega
  · have hle : N' ≤ N1 ∧ M' = N1 := by
      rcases hh with ⟨h, _⟩ | ⟨_, _, _, _, h, h'⟩ | ⟨_, _, _, _, _, h, h'⟩ | ⟨_, _, _, _, _, h, h'⟩ <;> omega
    exact ⟨_, _, _, Or.inr (Or.inr ⟨g1, hle.1, rfl, rfl, rfl⟩), Or.inr (Or.inr ⟨g1, by omega, rfl, rfl, rfl⟩)⟩
theorem WaitR.xok {M' : Int} (hR : WaitR B P ph N ws now v f N' M') (h : XOK B P ph N ws) : XOK B P ph N' ws ∧ XOK B P ph M' ws := by
  obtain ⟨l, g, N1, hL, hh⟩ := hR
  have h1 := hL.xok h
  rcases hh with ⟨_, _, _, rfl, rfl⟩ | ⟨_, _, _, _, rfl, rfl⟩ | ⟨_, _, _, _, _, rfl, rfl⟩ | ⟨_, _, _, _, _, rfl, rfl⟩
  · exact ⟨h1, h1⟩
  · exact ⟨h1, h1⟩
  · exact ⟨h1, h1⟩
  · exact ⟨h, h1⟩
end
end
section
set_option linter.unusedVariables false
set_option maxRecDepth 100000
set_option maxHeartbeats 400000
/-- The takes, as cells. -/
def fl : List (Int × Int) → List Value
  | [] => []
  | p :: ws => .int .u64 p.1 :: .int .u64 p.2 :: fl ws
theorem fl_at : ∀ (ws : List (Int × Int)) (k : Nat) (p : Int × Int), ws[k]? = some p → (fl ws)[k * 2]? = some (.int .u64 p.1) ∧ (fl ws)[k * 2 + 1]? = some (.int .u64 p.2)
  | [], k, p, h => by simp at h
  | q :: ws, 0, p, h => by simp at h; subst h; exact ⟨rfl, rfl⟩
  | q :: ws, k + 1, p, h => by
    have := fl_at ws k p (by simpa using h)
    rw [show (k + 1) * 2 = k * 2 + 2 by omega]
    exact ⟨by simpa [fl] using this.1, by simpa [fl] using this.2⟩
theorem fl_app (ws : List (Int × Int)) (p : Int × Int) : fl (ws ++ [p]) = fl ws ++ [.int .u64 p.1, .int .u64 p.2] := by
  induction ws with
  | nil => rfl
  | cons q ws ih => simp [fl, ih]
theorem sw_step {ws : List (Int × Int)} {k : Nat} {p : Int × Int} (h : ws[k]? = some p) (K : Int) : sw K (ws.take (k + 1)) = sw K (ws.take k) + (if p.1 = K then p.2 else 0) := by
  rw [List.take_add_one, h]; exact sw_app K _ p
abbrev MxL (r : Nat) (B P ph N : Int) (ws : List (Int × Int)) (A : Option Addr) (cap : Nat) : List Res :=
  [BlkR r 258 #[.int .u64 B, .int .u64 P, .int .u64 ph, .int .u64 N, .slice A ws.length cap], LisR 276 2 (.slice A ws.length cap) ws.length (fl ws)]
def MxR (r : Nat) (B P ph N : Int) (ws : List (Int × Int)) : Res := fun w S => ∃ A cap, Star (MxL r B P ph N ws A cap) w S
theorem MxR.ok (r : Nat) (B P ph N : Int) (ws : List (Int × Int)) : Ok (MxR r B P ph N ws) :=
  ⟨fun ⟨_, _, h⟩ => (Star.ok _).lt h, fun ⟨A, cap, h⟩ hk => ⟨A, cap, (Star.ok _).frame h hk⟩⟩
theorem _root_.Go.Proofs.YtdjhpdacglojaaaGreat.Blk.five {w : World} {g : Nat} {t : TypeId} {x y z u v : Value} (h : Blk w g t #[x, y, z, u, v]) : w.cell? ⟨g, 0, none⟩ = some x ∧ w.cell? ⟨g, 1, none⟩ = some y ∧ w.cell? ⟨g, 2, none⟩ = some z ∧ w.cell? ⟨g, 3, none⟩ = some u ∧ w.cell? ⟨g, 4, none⟩ = some v :=
  ⟨by have := h.cell 0; simpa using this, by have := h.cell 1; simpa using this, by have := h.cell 2; simpa using this, by have := h.cell 3; simpa using this, by have := h.cell 4; simpa using this⟩
section
variable {w0 w w' : World} {S0 : Nat → Prop} {L : List Res} {r : Nat} {B P ph N now n v f N' : Int} {ws : List (Int × Int)}
theorem win_no (t p d : Int) (w : World) (h : ¬ t < 4611686018427387904) : Calls Tryz.prog 157 #[.int .u64 t, .int .u64 p, .int .u64 d] w fun e w' => e = .returned (.tuple #[.int .u64 0, .int .u64 0, .int .i64 2]) ∧ w = w' :=
  rwindow_hor t p d w (fun h1 => h h1.1)
theorem mx_left (ho : XOK B P ph N ws) (hnow : 0 ≤ now) (hR : LeftR B P ph N ws now v f N') : ∀ w S, MxR r B P ph N ws w S →
    Calls Tryz.prog 129 #[.pointer (some ⟨r, 0, none⟩), .int .u64 now] w fun e w' => e = .returned (.tuple #[.int .u64 v, .int .i64 f]) ∧ ∃ S', MxR r B P ph N' ws w' S' ∧ Did S S' w w' := by
  rintro w S ⟨A, cap, hs⟩
  have s1 := St.start hs
  obtain ⟨c0, c1, c2, c3, c4⟩ := (s1.blk 0 rfl).five
  have hsh := ho.share
  have hn := ho.n
  rcases hR with ⟨g1, rfl, rfl, rfl⟩ | ⟨g1, g2, rfl, rfl, rfl⟩ | ⟨g1, g2, rfl, rfl, rfl⟩
  · have WH := Lib.hid (fun w => win_no now ph P w g1)
    go_enter Tryz.func129, Tryz.ntmps129
    go_wp2_with fail
    go_quiet ((go_at_call 157; first | exact q_left (WH.out _) | exact q_add (WH.out _)))
    go_wp2_with fail
    go_ret2
    exact ⟨rfl, (s1.drewN _).fin fun S' h => ⟨A, cap, h⟩⟩
  · by_cases hp : ph ≤ now
    · have WH := Lib.hid (fun w => rwindow_ok now ph P w hn.1 hp g1 ⟨by omega, by omega⟩)
      have d1 : decide (now < N') = true := decide_eq_true g2
      go_enter Tryz.func129, Tryz.ntmps129
      go_wp2_with fail
      go_quiet ((go_at_call 157; first | exact q_left (WH.out _) | exact q_add (WH.out _)))
      go_wp2_with fail
      go_ret2
      exact ⟨rfl, (s1.drewN _).fin fun S' h => ⟨A, cap, h⟩⟩
    · have WH := Lib.hid (fun w => rwindow_arg now ph P w (by omega) g1 (by omega) (fun h => hp h.2.2))
      go_enter Tryz.func129, Tryz.ntmps129
      go_wp2_with fail
      go_quiet ((go_at_call 157; first | exact q_left (WH.out _) | exact q_add (WH.out _)))
      go_wp2_with fail
      go_ret2
      exact ⟨rfl, (s1.drewN _).fin fun S' h => ⟨A, cap, h⟩⟩
  · have WH := Lib.hid (fun w => rwindow_ok N' ph P w hn.1 (by omega) g1 ⟨by omega, by omega⟩)
    have d1 : decide (N' < N) = false := decide_eq_false (by omega)
    have hpos : ∀ p ∈ ws, 0 ≤ p.2 := fun p hp => (ho.win p hp).2.2
    generalize (N' - ph) / P = K at *
    have hm := ho.most K
    go_enter Tryz.func129, Tryz.ntmps129
    go_wp2_with fail
    go_quiet ((go_at_call 157; first | exact q_left (WH.out _) | exact q_add (WH.out _)))
    have s2 := s1.drewN nq
    clear s1 WH
    generalize w.drewN nq = w1 at *
    obtain ⟨c0, c1, c2, c3, c4⟩ := (s2.blk 0 rfl).five
    have f3 := (s2.blk 0 rfl).frozen 3
    have s3 : St w S _ (MxL r B P ph N' ws A cap) := s2.set_ 0 rfl 3 (.int .u64 N')
    clear s2
    obtain ⟨e0, e1, e2, e3, e4⟩ := (s3.blk 0 rfl).five
    have S3 := Lib.hid s3
    clear s3
    obtain ⟨m, hml⟩ : ∃ m, ws.length = m := ⟨_, rfl⟩
    have hmx : m ≤ maxLen := by
      obtain ⟨A', cap', hv, hcap, hmx, _⟩ := S3.out.lis_cells 1 rfl
      omega
    unfold maxLen at hmx
    rw [hml] at c4 e4
    have HML := Lib.hid hml
    clear hml
    go_wp2_with fail
    go_loopw [9, 10] (fun l y wr => ∃ k : Nat, k ≤ m ∧ y = .int .i64 k ∧ l = .int .u64 (B - sw K (ws.take k)) ∧ wr = w1.setCell ⟨r, 3, none⟩ (.int .u64 N')) (fun _ y _ => m - (intOf y).toNat)
    case atStart => exact ⟨0, by omega, rfl, by simp [sw], rfl⟩
    case round =>
      obtain ⟨k, hk, rfl, rfl, rfl⟩ := hrel
      by_cases hlt : k < m
      · have hkl : k < ws.length := by rw [HML.out]; exact hlt
        obtain ⟨p, hp⟩ : ∃ p, ws[k]? = some p := ⟨_, List.getElem?_eq_getElem hkl⟩
        obtain ⟨A', cap', hv, hcap, hmx2, _, hcell⟩ := S3.out.lis_cells 1 rfl
        injection hv with hv1 _ hv2
        subst hv1; subst hv2
        obtain ⟨g, off, rfl, hcc⟩ := hcell.resolve_left (by omega)
        obtain ⟨z0, z1⟩ := fl_at ws k p hp
        have x0 := hcc _ _ z0
        have x1 := hcc _ _ z1
        have st := sw_step hp K
        have hle := sw_take_le hpos K (k + 1)
        have hp2 := sw_pos (fun q hq => hpos q (List.mem_of_mem_take hq)) K (ws := ws.take k)
        have hpp := hpos p (List.mem_of_getElem? hp)
        rw [← Nat.add_assoc] at x1
        clear hcc hcell z0 z1 hp
        generalize sw K (ws.take k) = a at *
        have HE := Lib.hid st
        by_cases hpk : p.1 = K
        · rw [if_pos hpk] at st HE
          have hq : (p.1 == K) = true := beq_iff_eq.2 hpk
          generalize p.1 = p1 at *
          generalize p.2 = p2 at *
          have dw : IntKind.u64.wrap (B - a - p2) = B - a - p2 := IntWalk.u64_in _ ⟨by omega, by omega⟩
          subst hpk
          clear st
          go_wp2
          go_roundw
          case rel => exact ⟨k + 1, by omega, by go_num, by rw [HE.out, show B - (a + p2) = B - a - p2 by omega], trivial⟩
          case measure => simp [intOf]; omega
        · rw [if_neg hpk] at st HE
          have hq : (p.1 == K) = false := beq_eq_false_iff_ne.2 hpk
          generalize p.1 = p1 at *
          generalize p.2 = p2 at *
          clear st
          go_wp2
          go_roundw
          case rel => exact ⟨k + 1, by omega, by go_num, by rw [HE.out, Int.add_zero], trivial⟩
          case measure => simp [intOf]; omega
      · have ht : ws.take k = ws := List.take_of_length_le (by rw [HML.out]; omega)
        have HT := Lib.hid ht
        clear ht
        go_wp2
        go_ret2
        exact ⟨(by rw [show sw K ws = sw K (ws.take k) by rw [HT.out]]; rfl), S3.out.fin fun S' h => ⟨A, cap, h⟩⟩
theorem Tryz.infoT : (Tryz.prog.info? 276).map (fun i => (i.zero, i.size, i.bytes)) = some (some (.agg #[.int .u64 0, .int .u64 0]), 2, 16) := by kernel_rfl
theorem mx_take {ws' : List (Int × Int)} (ho : XOK B P ph N ws) (hnow : 0 ≤ now) (hn0 : 0 ≤ n) (hlen : ws.length ≤ 200) (hR : TakeR B P ph N ws now n v f N' ws') : ∀ w S, MxR r B P ph N ws w S →
    Calls Tryz.prog 131 #[.pointer (some ⟨r, 0, none⟩), .int .u64 now, .int .u64 n] w fun e w' => e = .returned (.tuple #[.int .u64 v, .int .i64 f]) ∧ ∃ S', MxR r B P ph N' ws' w' S' ∧ Did S S' w w' := by
  rintro w S hs
  obtain ⟨l, hL, hh⟩ := hR
  have HL := Lib.hid (St.call (mx_left ho hnow hL) (MxR.ok _ _ _ _ _ _) (St.start (Star.one (MxR.ok _ _ _ _ _ _) hs)) 0 rfl)
  have hsh := ho.share
  have hn := ho.n
  by_cases hf : f = 0
  · obtain ⟨g1, g2, hl, rfl⟩ := hL.ok hf
    subst hf
    obtain ⟨rfl, rfl⟩ : v = mn n l ∧ ws' = ws ++ [((N' - ph) / P, v)] := by
      rcases hh with ⟨h, _⟩ | ⟨_, h1, h2⟩
      · exact absurd rfl h
      · exact ⟨h1, h2⟩
    have hm := ho.most ((N' - ph) / P)
    have hb := mn_bd (n := n) (l := l) hn0 (by omega)
    have WH := Lib.hid (fun w => rwindow_ok N' ph P w hn.1 (by omega) g1 ⟨by omega, by omega⟩)
    clear hl hm hL hh
    generalize (N' - ph) / P = K at *
    obtain ⟨i0, hi, hz0, hz1, hz2⟩ := info_parts Tryz.infoT
    obtain ⟨v, hv⟩ : ∃ v, mn n l = v := ⟨_, rfl⟩
    rw [hv] at hb ⊢
    by_cases hnl : l < n
    · obtain rfl : l = v := by rw [← hv]; unfold mn; rw [if_neg (by omega)]
      have d1 : decide (l < n) = true := decide_eq_true hnl
      clear hv
      go_enter Tryz.func131, Tryz.ntmps131
      go_wp2_with fail
      refine HL.out.mono ?_
      rintro e w1 ⟨rfl, s1⟩
      obtain ⟨S1, hst, hd⟩ := s1
      obtain ⟨A, cap, hs2⟩ := star_one hst
      have s2 : St w S w1 (MxL r B P ph N' ws A cap) := ⟨S1, hs2, hd⟩
      clear hst hs2 hd
      obtain ⟨c0, c1, c2, c3, c4⟩ := (s2.blk 0 rfl).five
      go_wp2_with fail
      go_quiet ((go_at_call 157; first | exact q_left (WH.out _) | exact q_add (WH.out _)))
      have s3 := s2.drewN nq
      clear s2 WH HL c0 c1 c2 c3 c4
      generalize w1.drewN nq = w2 at *
      have s4 := s3.alloc (.cells #[.int .u64 K, .int .u64 l] 276)
      obtain ⟨c0, c1, c2, c3, c4⟩ := (s3.blk 0 rfl).five
      have hl4 := s4.lis 1 rfl
      have hr4 := rds_box2 w2 276 (.int .u64 K) (.int .u64 l)
      go_wp2_with (at_builtin; refine wpList_lis rfl _ _ 256 rfl 276 i0 (.agg #[.int .u64 0, .int .u64 0]) 2 16 Tryz.underlying256 hi hz0 hz1 hz2 rfl (by decide) _ _ _ rfl hl4 (some ⟨w2.heap.size, 0, none⟩) 1 1 [.int .u64 K, .int .u64 l] rfl hr4 (by simp [Value.oneCell']) (by unfold maxLen; omega) (by omega) ?_; intro B6 cap6 w6 hl6 hg6 hat6; have s6 : St w S w6 [_, _] := s4.lis_put 1 rfl hl6 hg6 hat6; obtain ⟨e0, e1, e2, e3, e4⟩ := (s6.blk 0 rfl).five; have f4 := (s6.blk 0 rfl).frozen 4)
      have s7 : St w S _ [_, _] := s6.set_ 0 rfl 4 (.slice B6 (ws.length + 1) cap6)
      go_ret2
      exact ⟨rfl, s7.fin fun S' h => ⟨B6, cap6, by simpa [MxL, fl_app] using h⟩⟩
    · obtain rfl : n = v := by rw [← hv]; unfold mn; split <;> omega
      have d1 : decide (l < n) = false := decide_eq_false hnl
      clear hv
      go_enter Tryz.func131, Tryz.ntmps131
      go_wp2_with fail
      refine HL.out.mono ?_
      rintro e w1 ⟨rfl, s1⟩
      obtain ⟨S1, hst, hd⟩ := s1
      obtain ⟨A, cap, hs2⟩ := star_one hst
      have s2 : St w S w1 (MxL r B P ph N' ws A cap) := ⟨S1, hs2, hd⟩
      clear hst hs2 hd
      obtain ⟨c0, c1, c2, c3, c4⟩ := (s2.blk 0 rfl).five
      go_wp2_with fail
      go_quiet ((go_at_call 157; first | exact q_left (WH.out _) | exact q_add (WH.out _)))
      have s3 := s2.drewN nq
      clear s2 WH HL c0 c1 c2 c3 c4
      generalize w1.drewN nq = w2 at *
      have s4 := s3.alloc (.cells #[.int .u64 K, .int .u64 n] 276)
      obtain ⟨c0, c1, c2, c3, c4⟩ := (s3.blk 0 rfl).five
      have hl4 := s4.lis 1 rfl
      have hr4 := rds_box2 w2 276 (.int .u64 K) (.int .u64 n)
      go_wp2_with (at_builtin; refine wpList_lis rfl _ _ 256 rfl 276 i0 (.agg #[.int .u64 0, .int .u64 0]) 2 16 Tryz.underlying256 hi hz0 hz1 hz2 rfl (by decide) _ _ _ rfl hl4 (some ⟨w2.heap.size, 0, none⟩) 1 1 [.int .u64 K, .int .u64 n] rfl hr4 (by simp [Value.oneCell']) (by unfold maxLen; omega) (by omega) ?_; intro B6 cap6 w6 hl6 hg6 hat6; have s6 : St w S w6 [_, _] := s4.lis_put 1 rfl hl6 hg6 hat6; obtain ⟨e0, e1, e2, e3, e4⟩ := (s6.blk 0 rfl).five; have f4 := (s6.blk 0 rfl).frozen 4)
      have s7 : St w S _ [_, _] := s6.set_ 0 rfl 4 (.slice B6 (ws.length + 1) cap6)
      go_ret2
      exact ⟨rfl, s7.fin fun S' h => ⟨B6, cap6, by simpa [MxL, fl_app] using h⟩⟩
  · obtain ⟨rfl, rfl⟩ : v = 0 ∧ ws' = ws := by
      rcases hh with ⟨_, h1, h2⟩ | ⟨h, _⟩
      · exact ⟨h1, h2⟩
      · exact absurd h hf
    have d0 : (f == 0) = false := beq_eq_false_iff_ne.2 hf
    go_enter Tryz.func131, Tryz.ntmps131
    go_wp2_with fail
    refine HL.out.mono ?_
    rintro e w1 ⟨rfl, s1⟩
    go_wp2_with fail
    go_ret2
    exact ⟨rfl, s1.fin fun S' h => star_one h⟩
theorem mx_new (Hs : St w0 S0 w L) (B P ph : Int) :
    Calls Tryz.prog 97 #[.agg #[.int .u64 B, .int .u64 P], .int .u64 ph] w fun e w' => ∃ r, e = .returned (.pointer (some ⟨r, 0, none⟩)) ∧ St w0 S0 w' (L ++ [MxR r B P ph ph []]) := by
  have h1 : St w None _ (MxL _ B P ph ph [] none 0) := ((((St.begin w).alloc (.cells #[.int .u64 B, .int .u64 P] 76)).box 258 #[.int .u64 B, .int .u64 P, .int .u64 ph, .int .u64 ph, .slice none 0 0]).lis_nil 276 2)
  obtain ⟨S', h2, h3, h4⟩ := h1.made
  have key := Hs.more h4 (Star.one (MxR.ok _ B P ph ph []) ⟨none, 0, h2⟩) h3
  have HK := Lib.hid key
  clear h1 h2 h3 h4 key Hs
  go_enter Tryz.func97, Tryz.ntmps97
  go_wp2_with fail
  go_ret
  exact ⟨_, rfl, by simpa using HK.out⟩
end
end
section
set_option linter.unusedVariables false
/-- Masters, and the phase. -/
structure BC where
  n : Nat
  prio : Nat → Int
  burst : Nat → Int
  B : Nat → Int
  P : Nat → Int
  ph : Int
/-- What each took, how often each was stalled, the first slot that may be asked about, who had the last one, and how many in a row. -/
structure BS where
  ws : Nat → List (Int × Int)
  st : Nat → Int
  next : Int
  who : Int
  row : Int
/-- Masters that may be. -/
structure BC.OK (C : BC) : Prop where
  n1 : 1 ≤ C.n
  n16 : C.n ≤ 16
  prio : ∀ i, i < C.n → 0 ≤ C.prio i ∧ C.prio i ≤ 100
  burst : ∀ i, i < C.n → 0 ≤ C.burst i ∧ C.burst i ≤ 1000
  share : ∀ i, i < C.n → 1 ≤ C.B i ∧ C.B i ≤ C.P i ∧ C.P i ≤ 1099511627776
  ph : 0 ≤ C.ph ∧ C.ph < 4611686018427387904
/-- What holds between two calls. -/
structure BS.OK (C : BC) (s : BS) (k : Nat) : Prop where
  st : ∀ i, i < C.n → 0 ≤ s.st i ∧ s.st i ≤ k
  next : C.ph ≤ s.next ∧ s.next ≤ 4611686018427387904
  who : -1 ≤ s.who ∧ s.who < C.n
  row : 0 ≤ s.row ∧ s.row ≤ k
  nob : s.who = -1 → s.row = 0
  yes : 0 ≤ s.who → 1 ≤ s.row
  len : ∀ i, i < C.n → (s.ws i).length ≤ k
def upd {α : Type} (f : Nat → α) (i : Nat) (x : α) : Nat → α := fun j => if j = i then x else f j
def BC.K (C : BC) (i : Nat) (now : Int) : Int := (now - C.ph) / C.P i
/-- What is left of a share. -/
def BC.left (C : BC) (ws : Nat → List (Int × Int)) (i : Nat) (now : Int) : Int := C.B i - sw (C.K i now) (ws i)
def BS.who1 (s : BS) (now : Int) : Int := if s.next < now then -1 else s.who
def BS.row1 (s : BS) (now : Int) : Int := if s.next < now then 0 else s.row
/-- May it have the slot, of who had the last one, and how many in a row? -/
def mayB (C : BC) (ws : Nat → List (Int × Int)) (who row now : Int) (i : Nat) : Bool := !(decide (0 < C.burst i) && (decide (who = i) && decide (C.burst i ≤ row))) && decide (0 < C.left ws i now)
/-- The most urgent of the first k that are sought, of alike ones the first; -1: none. -/
def fst (q : Nat → Bool) (prio : Nat → Int) : Nat → Int
  | 0 => -1
  | k + 1 => if q k = true ∧ (fst q prio k = -1 ∨ prio k < prio (fst q prio k).toNat) then k else fst q prio k
theorem fst_bd (q : Nat → Bool) (prio : Nat → Int) : ∀ k : Nat, -1 ≤ fst q prio k ∧ fst q prio k < k
  | 0 => by simp [fst]
  | k + 1 => by have := fst_bd q prio k; unfold fst; split <;> omega
theorem fst_yes {q : Nat → Bool} {prio : Nat → Int} {k : Nat} (h1 : q k = true) (h2 : fst q prio k = -1 ∨ prio k < prio (fst q prio k).toNat) : fst q prio (k + 1) = k := by
  rw [fst, if_pos ⟨h1, h2⟩]
theorem fst_no {q : Nat → Bool} {prio : Nat → Int} {k : Nat} (h : ¬ (q k = true ∧ (fst q prio k = -1 ∨ prio k < prio (fst q prio k).toNat))) : fst q prio (k + 1) = fst q prio k := by
  rw [fst, if_neg h]
theorem fst_like {q q' : Nat → Bool} {prio : Nat → Int} : ∀ {k : Nat}, (∀ i, i < k → q i = q' i) → fst q prio k = fst q' prio k
  | 0, _ => rfl
  | k + 1, h => by unfold fst; rw [fst_like (k := k) fun i hi => h i (by omega), h k (by omega)]
theorem fst_q {q : Nat → Bool} {prio : Nat → Int} : ∀ {k i : Nat}, fst q prio k = i → q i = true
  | 0, i, h => by simp [fst] at h
  | k + 1, i, h => by
    unfold fst at h
    split at h
    · rename_i hc
      have : k = i := by omega
      rw [← this]; exact hc.1
    · exact fst_q h
/-- Nobody is sought. -/
theorem fst_none {q : Nat → Bool} {prio : Nat → Int} : ∀ {k : Nat}, fst q prio k = -1 → ∀ i, i < k → q i = false
  | 0, _, i, hi => by omega
  | k + 1, h, i, hi => by
    unfold fst at h
    split at h
    · omega
    · rename_i hc
      by_cases e : i = k
      · subst e
        cases hq : q i
        · rfl
        · exact absurd ⟨hq, Or.inl h⟩ hc
      · exact fst_none h i (by omega)
/-- Who is found is as urgent as all that are sought. -/
theorem fst_least {q : Nat → Bool} {prio : Nat → Int} : ∀ {k b : Nat}, fst q prio k = b → ∀ i, i < k → q i = true → prio b ≤ prio i
  | 0, b, h, i, hi, _ => by omega
  | k + 1, b, h, i, hi, hq => by
    unfold fst at h
    split at h
    · rename_i hc
      have e : k = b := by omega
      subst e
      by_cases e : i = k
      · rw [e]; omega
      · rcases hc.2 with h1 | h1
        · have := fst_none h1 i (by omega); rw [hq] at this; cases this
        · obtain ⟨c, hc2⟩ : ∃ c : Nat, fst q prio k = c := by
            have := fst_bd q prio k
            by_cases e2 : fst q prio k = -1
            · have := fst_none e2 i (by omega); rw [hq] at this; cases this
            · exact ⟨(fst q prio k).toNat, by omega⟩
          have := fst_least hc2 i (by omega) hq
          rw [hc2] at h1
          simp at h1
          omega
    · rename_i hc
      by_cases e : i = k
      · subst e
        have : ¬ prio i < prio (fst q prio i).toNat := fun h1 => hc ⟨hq, Or.inr h1⟩
        rw [h] at this
        simp at this
        exact this
      · exact fst_least h i (by omega) hq
/-- Who wants the slot, of numbers. -/
def wantB (nw : Nat) (f : Nat → Int) (i : Nat) : Bool := decide (∃ j, j < nw ∧ f j = i)
theorem wantB_zero (f : Nat → Int) : wantB 0 f = fun _ => false := by funext i; simp [wantB]
theorem wantB_succ (k : Nat) (f : Nat → Int) (i : Nat) (h : f k = i) : wantB (k + 1) f = fun j => if j = i then true else wantB k f j := by
  funext j
  unfold wantB
  by_cases e : j = i
  · subst e; rw [if_pos rfl]; exact decide_eq_true ⟨k, by omega, h⟩
  · rw [if_neg e]
    apply decide_eq_decide.2
    constructor
    · rintro ⟨x, hx, hf⟩
      by_cases e2 : x = k
      · subst e2; omega
      · exact ⟨x, by omega, hf⟩
    · rintro ⟨x, hx, hf⟩; exact ⟨x, by omega, hf⟩
def best (C : BC) (s : BS) (now : Int) (want : Nat → Bool) : Int := fst (fun i => want i && mayB C s.ws (s.who1 now) (s.row1 now) now i) C.prio C.n
/-- All who want it but one are stalled once more. -/
def stl (st : Nat → Int) (want : Nat → Bool) (b : Int) : Nat → Int := fun i => if want i = true ∧ (i : Int) ≠ b then st i + 1 else st i
/-- A slot that was asked for. -/
def SlotR (C : BC) (s : BS) (now : Int) (ok : Bool) (want : Nat → Bool) (v f : Int) (s' : BS) : Prop :=
  (¬ now < 4611686018427387904 ∧ v = 0 ∧ f = 2 ∧ s' = s) ∨ (now < 4611686018427387904 ∧ ¬ (ok = true ∧ s.next ≤ now) ∧ v = 0 ∧ f = 1 ∧ s' = s) ∨
  (now < 4611686018427387904 ∧ ok = true ∧ s.next ≤ now ∧ best C s now want = -1 ∧ v = 0 ∧ f = 5 ∧ s' = ⟨s.ws, stl s.st want (-1), now + 1, -1, 0⟩) ∨
  (now < 4611686018427387904 ∧ ok = true ∧ s.next ≤ now ∧ ∃ b : Nat, b < C.n ∧ best C s now want = b ∧ v = b ∧ f = 0 ∧ s' = ⟨upd s.ws b (s.ws b ++ [(C.K b now, 1)]), stl s.st want b, now + 1, b, (if s.who1 now = b then s.row1 now else 0) + 1⟩)
theorem slotR_ex (C : BC) (s : BS) (now : Int) (ok : Bool) (want : Nat → Bool) : ∃ v f s', SlotR C s now ok want v f s' := by
  by_cases h1 : now < 4611686018427387904
  · by_cases h2 : ok = true ∧ s.next ≤ now
    · have hb := fst_bd (fun i => want i && mayB C s.ws (s.who1 now) (s.row1 now) now i) C.prio C.n
      by_cases h3 : best C s now want = -1
      · exact ⟨_, _, _, Or.inr (Or.inr (Or.inl ⟨h1, h2.1, h2.2, h3, rfl, rfl, rfl⟩))⟩
      · unfold best at h3
        exact ⟨_, _, _, Or.inr (Or.inr (Or.inr ⟨h1, h2.1, h2.2, (best C s now want).toNat, by unfold best; omega, by unfold best; omega, rfl, rfl, rfl⟩))⟩
    · exact ⟨_, _, _, Or.inr (Or.inl ⟨h1, h2, rfl, rfl, rfl⟩)⟩
  · exact ⟨_, _, _, Or.inl ⟨h1, rfl, rfl, rfl⟩⟩
theorem who1_bd {C : BC} {s : BS} {k : Nat} (h : s.OK C k) (now : Int) : -1 ≤ s.who1 now ∧ s.who1 now < C.n := by
  have := h.who; unfold BS.who1; split <;> omega
theorem row1_bd {C : BC} {s : BS} {k : Nat} (h : s.OK C k) (now : Int) : 0 ≤ s.row1 now ∧ s.row1 now ≤ k := by
  have := h.row; unfold BS.row1; split <;> omega
theorem stl_bd {st : Nat → Int} {want : Nat → Bool} {b : Int} {k : Nat} {i : Nat} (h : 0 ≤ st i ∧ st i ≤ k) : 0 ≤ stl st want b i ∧ stl st want b i ≤ (k + 1 : Nat) := by
  unfold stl; split <;> omega
theorem SlotR.next {C : BC} {s s' : BS} {now v f : Int} {ok : Bool} {want : Nat → Bool} {k : Nat} (hR : SlotR C s now ok want v f s') (h : s.OK C k) : s'.OK C (k + 1) := by
  rcases hR with ⟨_, _, _, rfl⟩ | ⟨_, _, _, _, rfl⟩ | ⟨h1, h2, h3, h4, _, _, rfl⟩ | ⟨h1, h2, h3, b, hb, h4, _, _, rfl⟩
  · exact ⟨fun i hi => by have := h.st i hi; omega, h.next, h.who, by have := h.row; omega, h.nob, h.yes, fun i hi => by have := h.len i hi; omega⟩
  · exact ⟨fun i hi => by have := h.st i hi; omega, h.next, h.who, by have := h.row; omega, h.nob, h.yes, fun i hi => by have := h.len i hi; omega⟩
  · exact ⟨fun i hi => stl_bd (h.st i hi), ⟨by have := h.next; show C.ph ≤ now + 1; omega, by show now + 1 ≤ _; omega⟩, ⟨by show (-1:Int) ≤ -1; omega, by show (-1 : Int) < _; omega⟩, ⟨by show (0:Int) ≤ 0; omega, by show (0:Int) ≤ _; omega⟩, fun _ => rfl, fun h => by simp at h, fun i hi => by have := h.len i hi; show (s.ws i).length ≤ _; omega⟩
  · have hr := row1_bd h now
    refine ⟨fun i hi => stl_bd (h.st i hi), ⟨by have := h.next; show C.ph ≤ now + 1; omega, by show now + 1 ≤ _; omega⟩, ⟨by show (-1:Int) ≤ b; omega, by show (b : Int) < _; omega⟩, ⟨?_, ?_⟩, fun h => ?_, fun _ => ?_, fun i hi => ?_⟩
    · show 0 ≤ (if s.who1 now = b then s.row1 now else 0) + 1; split <;> omega
    · show (if s.who1 now = b then s.row1 now else 0) + 1 ≤ _; split <;> omega
    · have : (b : Int) = -1 := h
      omega
    · show 1 ≤ (if s.who1 now = b then s.row1 now else 0) + 1; split <;> omega
    · show (upd s.ws b (s.ws b ++ [(C.K b now, 1)]) i).length ≤ _
      have := h.len i hi
      unfold upd
      split
      · rename_i e; subst e; simp; omega
      · omega
end
section
set_option linter.unusedVariables false
set_option maxRecDepth 100000
set_option maxHeartbeats 400000
/-- A meter that was asked at M at the latest. -/
def MetE (b : Nat) (B P ph : Int) (ws : List (Int × Int)) (M : Int) : Res := fun w S => ∃ N, N ≤ M ∧ XOK B P ph N ws ∧ MetR b B P ph N ws w S
theorem MetE.ok (b : Nat) (B P ph : Int) (ws : List (Int × Int)) (M : Int) : Ok (MetE b B P ph ws M) :=
  ⟨fun ⟨N, _, _, h⟩ => (MetR.ok _ _ _ _ _ _).lt h, fun ⟨N, h1, h2, h⟩ hk => ⟨N, h1, h2, (MetR.ok _ _ _ _ _ _).frame h hk⟩⟩
theorem MetE.later {b : Nat} {B P ph : Int} {ws : List (Int × Int)} {M M' : Int} {w : World} {S : Nat → Prop} (h : M ≤ M') (hm : MetE b B P ph ws M w S) : MetE b B P ph ws M' w S := by
  obtain ⟨N, h1, h2⟩ := hm; exact ⟨N, Int.le_trans h1 h, h2⟩
theorem mete_left {b : Nat} {B P ph now : Int} {ws : List (Int × Int)} (hnow : now < 4611686018427387904) : ∀ w S, MetE b B P ph ws now w S →
    Calls Tryz.prog 154 #[.pointer (some ⟨b, 0, none⟩), .int .u64 now] w fun e w' => e = .returned (.tuple #[.int .u64 (B - sw ((now - ph) / P) ws), .int .i64 0]) ∧ ∃ S', MetE b B P ph ws now w' S' ∧ Did S S' w w' := by
  rintro w S ⟨N, hN, ho, h⟩
  have hR : LeftR B P ph N ws now (B - sw ((now - ph) / P) ws) 0 now := Or.inr (Or.inr ⟨hnow, hN, rfl, rfl, rfl⟩)
  refine (met_left (St.start (Star.one (MetR.ok _ _ _ _ _ _) h)) 0 rfl ho hR).mono ?_
  rintro e w' ⟨he, s⟩
  exact ⟨he, s.fin fun S' h' => ⟨now, Int.le_refl _, hR.xok ho, star_one h'⟩⟩
theorem mete_take {b : Nat} {B P ph now : Int} {ws : List (Int × Int)} (hnow : now < 4611686018427387904) (hl : 0 < B - sw ((now - ph) / P) ws) : ∀ w S, MetE b B P ph ws now w S →
    Calls Tryz.prog 155 #[.pointer (some ⟨b, 0, none⟩), .int .u64 now, .int .u64 1] w fun e w' => e = .returned (.tuple #[.int .u64 1, .int .i64 0]) ∧ ∃ S', MetE b B P ph (ws ++ [((now - ph) / P, 1)]) now w' S' ∧ Did S S' w w' := by
  rintro w S ⟨N, hN, ho, h⟩
  have hR : TakeR B P ph N ws now 1 1 0 now (ws ++ [((now - ph) / P, 1)]) := ⟨_, Or.inr (Or.inr ⟨hnow, hN, rfl, rfl, rfl⟩), Or.inr ⟨rfl, by unfold mn; split <;> omega, rfl⟩⟩
  refine (met_take (St.start (Star.one (MetR.ok _ _ _ _ _ _) h)) 0 rfl ho (by omega) hR).mono ?_
  rintro e w' ⟨he, s⟩
  exact ⟨he, s.fin fun S' h' => ⟨now, Int.le_refl _, hR.xok (by omega) ho, star_one h'⟩⟩
/-- A master's cells. -/
def mcell (C : BC) (mp : Nat → Nat) (st : Nat → Int) (k : Nat) : Value :=
  if k % 6 = 0 then .int .i64 (C.prio (k / 6)) else if k % 6 = 1 then .int .i64 (C.burst (k / 6)) else if k % 6 = 2 then .int .u64 (C.B (k / 6)) else if k % 6 = 3 then .int .u64 (C.P (k / 6)) else
  if k % 6 = 4 then .pointer (some ⟨mp (k / 6), 0, none⟩) else .int .i64 (st (k / 6))
theorem mcell_at (C : BC) (mp : Nat → Nat) (st : Nat → Int) (i : Nat) : mcell C mp st (i * 6) = .int .i64 (C.prio i) ∧ mcell C mp st (i * 6 + 1) = .int .i64 (C.burst i) ∧ mcell C mp st (i * 6 + 2) = .int .u64 (C.B i) ∧
    mcell C mp st (i * 6 + 3) = .int .u64 (C.P i) ∧ mcell C mp st (i * 6 + 4) = .pointer (some ⟨mp i, 0, none⟩) ∧ mcell C mp st (i * 6 + 5) = .int .i64 (st i) := by
  have h0 : i * 6 % 6 = 0 ∧ i * 6 / 6 = i := by omega
  have h1 : (i * 6 + 1) % 6 = 1 ∧ (i * 6 + 1) / 6 = i := by omega
  have h2 : (i * 6 + 2) % 6 = 2 ∧ (i * 6 + 2) / 6 = i := by omega
  have h3 : (i * 6 + 3) % 6 = 3 ∧ (i * 6 + 3) / 6 = i := by omega
  have h4 : (i * 6 + 4) % 6 = 4 ∧ (i * 6 + 4) / 6 = i := by omega
  have h5 : (i * 6 + 5) % 6 = 5 ∧ (i * 6 + 5) / 6 = i := by omega
  unfold mcell
  simp [h0, h1, h2, h3, h4, h5]
abbrev BusL (C : BC) (b g : Nat) (mp : Nat → Nat) (M : Int) (s : BS) : List Res :=
  [BlkR b 189 #[.slice (some ⟨g, 0, none⟩) C.n C.n, .int .u64 s.next, .int .i64 s.who, .int .i64 s.row], ArrR g 194 (C.n * 6) (mcell C mp s.st)] ++ (List.range C.n).map (fun i => MetE (mp i) (C.B i) (C.P i) C.ph (s.ws i) M)
/-- A bus whose meters were asked at M at the latest. -/
def BusR (C : BC) (b g : Nat) (mp : Nat → Nat) (M : Int) (s : BS) : Res := fun w S => Star (BusL C b g mp M s) w S
theorem BusR.ok (C : BC) (b g : Nat) (mp : Nat → Nat) (M : Int) (s : BS) : Ok (BusR C b g mp M s) := Star.ok _
section
variable {w0 w w' : World} {S0 : Nat → Prop} {L : List Res} {C : BC} {b g : Nat} {mp : Nat → Nat} {M now : Int} {s : BS} {k : Nat}
theorem bus_later {M' : Int} (H : St w0 S0 w L) (k : Nat) (hk : L[k]? = some (BusR C b g mp M s)) (h : M ≤ M') : St w0 S0 w (L.set k (BusR C b g mp M' s)) :=
  H.weak k hk (BusR.ok _ _ _ _ _ _) fun S hs => Star.weakF (A := [_, _]) hs fun i hi => ⟨MetE.ok _ _ _ _ _ _, fun T hT => hT.later h⟩
/-- Its own cells. -/
theorem bus_blk (H : St w0 S0 w L) (k : Nat) (hk : L[k]? = some (BusR C b g mp M s)) : Blk w b 189 #[.slice (some ⟨g, 0, none⟩) C.n C.n, .int .u64 s.next, .int .i64 s.who, .int .i64 s.row] := by
  obtain ⟨S, hs⟩ := H.get k hk; exact (St.start hs).blk 0 rfl
theorem bus_cells (H : St w0 S0 w L) (k : Nat) (hk : L[k]? = some (BusR C b g mp M s)) {i : Nat} (hi : i < C.n) : w.cell? ⟨g, i * 6, none⟩ = some (.int .i64 (C.prio i)) ∧ w.cell? ⟨g, i * 6 + 1, none⟩ = some (.int .i64 (C.burst i)) ∧
    w.cell? ⟨g, i * 6 + 2, none⟩ = some (.int .u64 (C.B i)) ∧ w.cell? ⟨g, i * 6 + 3, none⟩ = some (.int .u64 (C.P i)) ∧ w.cell? ⟨g, i * 6 + 4, none⟩ = some (.pointer (some ⟨mp i, 0, none⟩)) ∧ w.cell? ⟨g, i * 6 + 5, none⟩ = some (.int .i64 (s.st i)) := by
  obtain ⟨S, hs⟩ := H.get k hk
  have h := St.start hs
  obtain ⟨m0, m1, m2, m3, m4, m5⟩ := mcell_at C mp s.st i
  exact ⟨by rw [h.arr_cell 1 rfl (by omega), m0], by rw [h.arr_cell 1 rfl (by omega), m1], by rw [h.arr_cell 1 rfl (by omega), m2], by rw [h.arr_cell 1 rfl (by omega), m3], by rw [h.arr_cell 1 rfl (by omega), m4], by rw [h.arr_cell 1 rfl (by omega), m5]⟩
theorem bus_frozen (H : St w0 S0 w L) (k : Nat) (hk : L[k]? = some (BusR C b g mp M s)) (j : Nat) : w.frozen? ⟨g, j, none⟩ = false := by
  obtain ⟨S, hs⟩ := H.get k hk; exact (St.start hs).arr_frozen 1 rfl j
theorem bus_next (H : St w0 S0 w L) (k : Nat) (hk : L[k]? = some (BusR C b g mp M s)) (x : Int) : St w0 S0 (w.setCell ⟨b, 1, none⟩ (.int .u64 x)) (L.set k (BusR C b g mp M { s with next := x })) :=
  H.turn hk (BusR.ok _ _ _ _ _ _) fun T h => ((St.start h).set_ 0 rfl 1 (.int .u64 x)).fin fun S' h' => h'
theorem bus_who (H : St w0 S0 w L) (k : Nat) (hk : L[k]? = some (BusR C b g mp M s)) (x : Int) : St w0 S0 (w.setCell ⟨b, 2, none⟩ (.int .i64 x)) (L.set k (BusR C b g mp M { s with who := x })) :=
  H.turn hk (BusR.ok _ _ _ _ _ _) fun T h => ((St.start h).set_ 0 rfl 2 (.int .i64 x)).fin fun S' h' => h'
theorem bus_row (H : St w0 S0 w L) (k : Nat) (hk : L[k]? = some (BusR C b g mp M s)) (x : Int) : St w0 S0 (w.setCell ⟨b, 3, none⟩ (.int .i64 x)) (L.set k (BusR C b g mp M { s with row := x })) :=
  H.turn hk (BusR.ok _ _ _ _ _ _) fun T h => ((St.start h).set_ 0 rfl 3 (.int .i64 x)).fin fun S' h' => h'
theorem bus_stalls (H : St w0 S0 w L) (k : Nat) (hk : L[k]? = some (BusR C b g mp M s)) {i : Nat} (hi : i < C.n) (x : Int) : St w0 S0 (w.setCell ⟨g, i * 6 + 5, none⟩ (.int .i64 x)) (L.set k (BusR C b g mp M { s with st := upd s.st i x })) :=
  H.turn hk (BusR.ok _ _ _ _ _ _) fun T h => by
    have h1 := (St.start h).arr_set 1 rfl (k := i * 6 + 5) (by omega) (.int .i64 x)
    have h2 := h1.arr_like (V' := mcell C mp (upd s.st i x)) 1 rfl (fun j hj => by
      by_cases e : j = i * 6 + 5
      · subst e; rw [if_pos rfl, (mcell_at C mp _ i).2.2.2.2.2]; simp [upd]
      · rw [if_neg e]
        unfold mcell upd
        by_cases e2 : j / 6 = i
        · have : j % 6 ≠ 5 := by omega
          have : j % 6 < 5 := by omega
          repeat (split; rfl)
          omega
        · rw [if_neg e2])
    exact h2.fin fun S' h' => h'
/-- A meter is asked. -/
theorem bus_left (H : St w0 S0 w L) (k : Nat) (hk : L[k]? = some (BusR C b g mp now s)) {i : Nat} (hi : i < C.n) (hnow : now < 4611686018427387904) :
    Calls Tryz.prog 154 #[.pointer (some ⟨mp i, 0, none⟩), .int .u64 now] w fun e w' => e = .returned (.tuple #[.int .u64 (C.left s.ws i now), .int .i64 0]) ∧ St w0 S0 w' L := by
  have key := St.call (R := BusR C b g mp now s) (R' := BusR C b g mp now s) (Post := fun e => e = .returned (.tuple #[.int .u64 (C.left s.ws i now), .int .i64 0])) (f := 154) (P := Tryz.prog) (args := #[.pointer (some ⟨mp i, 0, none⟩), .int .u64 now]) (fun w S h => by
    refine (St.call (mete_left hnow) (MetE.ok _ _ _ _ _ _) (St.start h) (2 + i) (fam_at [_, _] _ hi)).mono ?_
    rintro e w' ⟨he, hs⟩
    refine ⟨he, hs.fin fun S' h' => ?_⟩
    rw [show 2 + i = ([BlkR b 189 #[.slice (some ⟨g, 0, none⟩) C.n C.n, .int .u64 s.next, .int .i64 s.who, .int .i64 s.row], ArrR g 194 (C.n * 6) (mcell C mp s.st)] : List Res).length + i from rfl, fam_set _ _ _ hi] at h'
    rw [fam_like (R' := fun i => MetE (mp i) (C.B i) (C.P i) C.ph (s.ws i) now) (fun j hj => by split; (rename_i e; rw [e]); rfl)] at h'
    exact h') (BusR.ok _ _ _ _ _ _) H k hk
  refine key.mono ?_
  rintro e w' ⟨he, hs⟩
  rw [set_same hk] at hs
  exact ⟨he, hs⟩
theorem bus_take (H : St w0 S0 w L) (k : Nat) (hk : L[k]? = some (BusR C b g mp now s)) {i : Nat} (hi : i < C.n) (hnow : now < 4611686018427387904) (hl : 0 < C.left s.ws i now) :
    Calls Tryz.prog 155 #[.pointer (some ⟨mp i, 0, none⟩), .int .u64 now, .int .u64 1] w fun e w' => e = .returned (.tuple #[.int .u64 1, .int .i64 0]) ∧ St w0 S0 w' (L.set k (BusR C b g mp now { s with ws := upd s.ws i (s.ws i ++ [(C.K i now, 1)]) })) := by
  refine St.call (R := BusR C b g mp now s) (Post := fun e => e = .returned (.tuple #[.int .u64 1, .int .i64 0])) (f := 155) (P := Tryz.prog) (args := #[.pointer (some ⟨mp i, 0, none⟩), .int .u64 now, .int .u64 1]) (fun w S h => ?_) (BusR.ok _ _ _ _ _ _) H k hk
  refine (St.call (mete_take hnow hl) (MetE.ok _ _ _ _ _ _) (St.start h) (2 + i) (fam_at [_, _] _ hi)).mono ?_
  rintro e w' ⟨he, hs⟩
  refine ⟨he, hs.fin fun S' h' => ?_⟩
  rw [show 2 + i = ([BlkR b 189 #[.slice (some ⟨g, 0, none⟩) C.n C.n, .int .u64 s.next, .int .i64 s.who, .int .i64 s.row], ArrR g 194 (C.n * 6) (mcell C mp s.st)] : List Res).length + i from rfl, fam_set _ _ _ hi] at h'
  rw [fam_like (R' := fun j => MetE (mp j) (C.B j) (C.P j) C.ph (upd s.ws i (s.ws i ++ [(C.K i now, 1)]) j) now) (fun j hj => by unfold upd; split; (rename_i e; subst e; rfl); rfl)] at h'
  exact h'
/-! ### The functions -/
theorem has_yes (c0 : w.cell? ⟨b, 0, none⟩ = some (.slice (some ⟨g, 0, none⟩) C.n C.n)) (hn : C.n ≤ 16) (i : Nat) (h : i < C.n) :
    Calls Tryz.prog 153 #[.pointer (some ⟨b, 0, none⟩), .int .i64 i] w fun e w' => e = .returned (.bool true) ∧ w = w' := by
  have d1 : decide (0 ≤ (i : Int)) = true := decide_eq_true (by omega)
  have d2 : decide ((i : Int) < (C.n : Int)) = true := decide_eq_true (by omega)
  go_enter Tryz.func153, Tryz.ntmps153
  go_wp2_with fail
  go_ret
  exact ⟨rfl, rfl⟩
theorem has_no (c0 : w.cell? ⟨b, 0, none⟩ = some (.slice (some ⟨g, 0, none⟩) C.n C.n)) (hn : C.n ≤ 16) (x : Int) (h : ¬ (0 ≤ x ∧ x < C.n)) :
    Calls Tryz.prog 153 #[.pointer (some ⟨b, 0, none⟩), .int .i64 x] w fun e w' => e = .returned (.bool false) ∧ w = w' := by
  by_cases h0 : 0 ≤ x
  · have d1 : decide (0 ≤ x) = true := decide_eq_true h0
    have d2 : decide (x < (C.n : Int)) = false := decide_eq_false (by omega)
    clear h
    go_enter Tryz.func153, Tryz.ntmps153
    go_wp2_with fail
    go_ret
    exact ⟨rfl, rfl⟩
  · have d1 : decide (0 ≤ x) = false := decide_eq_false h0
    clear h
    go_enter Tryz.func153, Tryz.ntmps153
    go_wp2_with fail
    go_ret
    exact ⟨rfl, rfl⟩
end
end
section
set_option linter.unusedVariables false
set_option maxRecDepth 100000
set_option maxHeartbeats 400000
def marksV (m : Nat → Bool) : Array Value := #[.bool (m 0), .bool (m 1), .bool (m 2), .bool (m 3), .bool (m 4), .bool (m 5), .bool (m 6), .bool (m 7), .bool (m 8), .bool (m 9), .bool (m 10), .bool (m 11), .bool (m 12), .bool (m 13), .bool (m 14), .bool (m 15)]
theorem marks_one (m : Nat → Bool) : (marksV m).all (·.oneCell') = true := by simp [marksV, Value.oneCell']
theorem results_row_tmp {P : Program} {fn : Func} {p q : Tmp} {ty : TypeId} (h : fn.results = #[.cell p ty, .tmp q]) (tmps : Array Value) (w : World) (g : Nat) (t : TypeId) (cs : Array Value) (fr : Nat × Nat) (d : TypeDesc) (v : Value)
    (hp : tmps.getD p undef = .pointer (some ⟨g, 0, none⟩)) (hv : tmps.getD q undef = v) (hg : w.heap[g]? = some (.cells cs t fr))
    (hu : P.underlying ty = some d) (hd : (match d with | .struct _ | .array _ _ => true | _ => false) = true) (hi : (P.info? ty).map (·.size) = some cs.size) :
    (results fn tmps).run P w = .ok (.tuple #[.agg cs, v]) w := by
  have hp' : tmps[p]?.getD undef = .pointer (some ⟨g, 0, none⟩) := by simpa using hp
  have hv' : tmps[q]?.getD undef = v := by simpa using hv
  simp [results, h, hp', hv', asAddr, run_loadVar_row w g t ty cs fr d hg hu hd hi]
theorem first_bad {n : Nat} {P : Nat → Prop} (h : ¬ ∀ j, j < n → P j) : ∃ i, i < n ∧ ¬ P i ∧ ∀ j, j < i → P j := by
  induction n with
  | zero => exact absurd (fun j hj => absurd hj (by omega)) h
  | succ n ih =>
    by_cases h1 : ∀ j, j < n → P j
    · exact ⟨n, by omega, fun hp => h fun j hj => by
        by_cases e : j = n
        · rw [e]; exact hp
        · exact h1 j (by omega), h1⟩
    · obtain ⟨i, a, b, c⟩ := ih h1; exact ⟨i, by omega, b, c⟩
theorem c16 {w : World} {g : Nat} {t : TypeId} {m : Nat → Bool} (h : Blk w g t (marksV m)) :
    w.cell? ⟨g, 0, none⟩ = some (.bool (m 0)) ∧ w.cell? ⟨g, 1, none⟩ = some (.bool (m 1)) ∧ w.cell? ⟨g, 2, none⟩ = some (.bool (m 2)) ∧ w.cell? ⟨g, 3, none⟩ = some (.bool (m 3)) ∧
    w.cell? ⟨g, 4, none⟩ = some (.bool (m 4)) ∧ w.cell? ⟨g, 5, none⟩ = some (.bool (m 5)) ∧ w.cell? ⟨g, 6, none⟩ = some (.bool (m 6)) ∧ w.cell? ⟨g, 7, none⟩ = some (.bool (m 7)) ∧
    w.cell? ⟨g, 8, none⟩ = some (.bool (m 8)) ∧ w.cell? ⟨g, 9, none⟩ = some (.bool (m 9)) ∧ w.cell? ⟨g, 10, none⟩ = some (.bool (m 10)) ∧ w.cell? ⟨g, 11, none⟩ = some (.bool (m 11)) ∧
    w.cell? ⟨g, 12, none⟩ = some (.bool (m 12)) ∧ w.cell? ⟨g, 13, none⟩ = some (.bool (m 13)) ∧ w.cell? ⟨g, 14, none⟩ = some (.bool (m 14)) ∧ w.cell? ⟨g, 15, none⟩ = some (.bool (m 15)) := by
  refine ⟨?_, ?_, ?_, ?_, ?_, ?_, ?_, ?_, ?_, ?_, ?_, ?_, ?_, ?_, ?_, ?_⟩ <;> (rw [h.cell]; rfl)
section
variable {w0 w w' : World} {S0 : Nat → Prop} {L : List Res} {C : BC} {b g : Nat} {mp : Nat → Nat} {M now : Int} {s : BS} {k : Nat}
theorem mark_yes {A : Option Addr} {nw cap : Nat} {f : Nat → Int} (c0 : w.cell? ⟨b, 0, none⟩ = some (.slice (some ⟨g, 0, none⟩) C.n C.n)) (hn : C.n ≤ 16) (hm : nw ≤ maxLen) (rd : Rd w A nw (fun j => .int .i64 (f j))) (hf : ∀ j, j < nw → 0 ≤ f j ∧ f j < C.n) :
    Calls Tryz.prog 121 #[.pointer (some ⟨b, 0, none⟩), .slice A nw cap] w fun e w' => e = .returned (.tuple #[.agg (marksV (wantB nw f)), .bool true]) ∧ Below w.heap.size w w' := by
  unfold maxLen at hm
  have hbl := block_lt c0
  have C0 := Lib.hid (fun (wr : World) (h : Below w.heap.size w wr) => (h.cell (p := ⟨b, 0, none⟩) hbl).trans c0)
  have s1 : St w None _ [ArrR w.heap.size 232 16 (fun j => .bool (wantB 0 f j))] := (St.begin w).box_arr 232 #[.bool false, .bool false, .bool false, .bool false, .bool false, .bool false, .bool false, .bool false, .bool false, .bool false, .bool false, .bool false, .bool false, .bool false, .bool false, .bool false] 16 _ rfl (fun i hi => by
    rw [wantB_zero]
    match i, hi with
    | 0, _ | 1, _ | 2, _ | 3, _ | 4, _ | 5, _ | 6, _ | 7, _ | 8, _ | 9, _ | 10, _ | 11, _ | 12, _ | 13, _ | 14, _ | 15, _ => rfl
    | n + 16, h => omega)
  clear c0
  go_enter Tryz.func121, Tryz.ntmps121
  go_wp2_with fail
  go_loopw [10] (fun i wr => ∃ k : Nat, k ≤ nw ∧ i = .int .i64 k ∧ St w None wr [ArrR w.heap.size 232 16 (fun j => .bool (wantB k f j))]) (fun i _ => nw - (intOf i).toNat)
  case atStart => exact ⟨0, by omega, rfl, s1⟩
  case round =>
    obtain ⟨k, hk, rfl, sr⟩ := hrel
    by_cases hlt : k < nw
    · obtain ⟨ib, off, rfl, hbl2, hcell⟩ := rd.below sr.below (Nat.le_refl _) (by omega)
      obtain ⟨i, hi⟩ : ∃ i : Nat, f k = i := ⟨(f k).toNat, by have := hf k hlt; omega⟩
      have hin : i < C.n := by have := hf k hlt; omega
      have i16 : i < 16 := by omega
      have ck := hcell k hlt
      dsimp only at ck
      rw [hi] at ck
      have fz := sr.arr_frozen 0 rfl i
      have s2 := sr.arr_set 0 rfl i16 (.bool true)
      have s3 : St w None _ [ArrR w.heap.size 232 16 (fun j => .bool (wantB (k + 1) f j))] := s2.arr_like 0 rfl (fun j hj => by rw [wantB_succ k f i hi]; dsimp only; split <;> rfl)
      have HS := Lib.hid s3
      have HY := Lib.hid (has_yes (C0.out _ sr.below) hn i hin)
      have cm := sr.arr_cell 0 rfl i16
      clear hcell s2 s3 hi sr
      go_wp2_with (go_at_call 153; refine HY.out.mono ?_; rintro e w' ⟨rfl, rfl⟩)
      go_roundw
      case rel => exact ⟨k + 1, by omega, by go_num, HS.out⟩
      case measure => simp [intOf]; omega
    · obtain rfl : k = nw := by omega
      have hbk : Blk wr w.heap.size 232 (marksV (wantB k f)) := sr.arr16 0 rfl
      obtain ⟨q0, q1, q2, q3, q4, q5, q6, q7, q8, q9, q10, q11, q12, q13, q14, q15⟩ := c16 hbk
      have hbel := sr.below
      have HBK := Lib.hid hbk
      clear sr C0 s1 rd hbk
      go_wp2_with ((refine wpList_store_blk rfl 232 (.tmp 4) (.tmp 22) rfl w.heap.size (marksV (wantB k f)) rfl rfl 232 _ HBK.out (by kernel_rfl) rfl (marks_one _) ?_; intro w9 hw9 ho9; have HBK9 := Lib.hid hw9; clear hw9))
      refine bodyPost_ret (results_row_tmp Tryz.results121 _ _ w.heap.size 232 _ (0, 0) _ _ rfl rfl HBK9.out Tryz.underlying232 rfl (by kernel_rfl)) rfl ⟨rfl, hbel.trans (ho9.below (Nat.le_refl _) hbel.size)⟩
theorem mark_no {A : Option Addr} {nw cap : Nat} {f : Nat → Int} (c0 : w.cell? ⟨b, 0, none⟩ = some (.slice (some ⟨g, 0, none⟩) C.n C.n)) (hn : C.n ≤ 16) (hm : nw ≤ maxLen) (rd : Rd w A nw (fun j => .int .i64 (f j))) (hf : ¬ ∀ j, j < nw → 0 ≤ f j ∧ f j < C.n) :
    Calls Tryz.prog 121 #[.pointer (some ⟨b, 0, none⟩), .slice A nw cap] w fun e w' => e = .returned (.tuple #[.agg (marksV (fun _ => false)), .bool false]) ∧ Below w.heap.size w w' := by
  unfold maxLen at hm
  have hbl := block_lt c0
  obtain ⟨i0, h1, h2, h3⟩ := first_bad hf
  clear hf
  have C0 := Lib.hid (fun (wr : World) (h : Below w.heap.size w wr) => (h.cell (p := ⟨b, 0, none⟩) hbl).trans c0)
  have s1 : St w None _ [ArrR w.heap.size 232 16 (fun j => .bool (wantB 0 f j))] := (St.begin w).box_arr 232 #[.bool false, .bool false, .bool false, .bool false, .bool false, .bool false, .bool false, .bool false, .bool false, .bool false, .bool false, .bool false, .bool false, .bool false, .bool false, .bool false] 16 _ rfl (fun i hi => by
    rw [wantB_zero]
    match i, hi with
    | 0, _ | 1, _ | 2, _ | 3, _ | 4, _ | 5, _ | 6, _ | 7, _ | 8, _ | 9, _ | 10, _ | 11, _ | 12, _ | 13, _ | 14, _ | 15, _ => rfl
    | n + 16, h => omega)
  clear c0
  go_enter Tryz.func121, Tryz.ntmps121
  go_wp2_with fail
  go_loopw [10] (fun i wr => ∃ k : Nat, k ≤ i0 ∧ i = .int .i64 k ∧ St w None wr [ArrR w.heap.size 232 16 (fun j => .bool (wantB k f j))]) (fun i _ => nw - (intOf i).toNat)
  case atStart => exact ⟨0, by omega, rfl, s1⟩
  case round =>
    obtain ⟨k, hk, rfl, sr⟩ := hrel
    have hlt : k < nw := by omega
    obtain ⟨ib, off, rfl, hbl2, hcell⟩ := rd.below sr.below (Nat.le_refl _) (by omega)
    have ck := hcell k hlt
    dsimp only at ck
    by_cases hlt2 : k < i0
    · obtain ⟨i, hi⟩ : ∃ i : Nat, f k = i := ⟨(f k).toNat, by have := h3 k hlt2; omega⟩
      have hin : i < C.n := by have := h3 k hlt2; omega
      have i16 : i < 16 := by omega
      rw [hi] at ck
      have fz := sr.arr_frozen 0 rfl i
      have s2 := sr.arr_set 0 rfl i16 (.bool true)
      have s3 : St w None _ [ArrR w.heap.size 232 16 (fun j => .bool (wantB (k + 1) f j))] := s2.arr_like 0 rfl (fun j hj => by rw [wantB_succ k f i hi]; dsimp only; split <;> rfl)
      have HS := Lib.hid s3
      have HY := Lib.hid (has_yes (C0.out _ sr.below) hn i hin)
      have cm := sr.arr_cell 0 rfl i16
      clear hcell s2 s3 hi sr h2 h3
      go_wp2_with (go_at_call 153; refine HY.out.mono ?_; rintro e w' ⟨rfl, rfl⟩)
      go_roundw
      case rel => exact ⟨k + 1, by omega, by go_num, HS.out⟩
      case measure => simp [intOf]; omega
    · obtain rfl : k = i0 := by omega
      have HY := Lib.hid (has_no (C0.out _ sr.below) hn (f k) h2)
      have hbk : Blk wr w.heap.size 232 (marksV (wantB k f)) := sr.arr16 0 rfl
      have hbel := sr.below
      generalize f k = fk at *
      have HBK := Lib.hid hbk
      clear sr C0 s1 rd hbk h2 h3 hcell
      go_wp2_with (first
        | (go_at_call 153; refine HY.out.mono ?_; rintro e w' ⟨rfl, rfl⟩)
        | (refine wpList_store_blk rfl 232 (.tmp 4) (.tmp 18) rfl w.heap.size (marksV (fun _ => false)) rfl rfl 232 _ HBK.out (by kernel_rfl) rfl (marks_one _) ?_; intro w9 hw9 ho9; have HBK9 := Lib.hid hw9; clear hw9))
      refine bodyPost_ret (results_row_tmp Tryz.results121 _ _ w.heap.size 232 _ (0, 0) _ _ rfl rfl HBK9.out Tryz.underlying232 rfl (by kernel_rfl)) rfl ⟨rfl, hbel.trans (ho9.below (Nat.le_refl _) hbel.size)⟩
theorem bmay (H : St w0 S0 w L) (k : Nat) (hk : L[k]? = some (BusR C b g mp now s)) (hC : C.OK) {i : Nat} (hi : i < C.n) (hnow : now < 4611686018427387904) :
    Calls Tryz.prog 124 #[.pointer (some ⟨b, 0, none⟩), .int .i64 i, .int .u64 now] w fun e w' => e = .returned (.bool (mayB C s.ws s.who s.row now i)) ∧ St w0 S0 w' L := by
  obtain ⟨m0, m1, m2, m3, m4, m5⟩ := bus_cells H k hk hi
  obtain ⟨c0, c1, c2, c3⟩ := (bus_blk H k hk).four
  have hn := hC.n16
  have hb := hC.burst i hi
  have hB := H.front 194 #[.int .i64 (C.prio i), .int .i64 (C.burst i), .int .u64 (C.B i), .int .u64 (C.P i), .pointer (some ⟨mp i, 0, none⟩), .int .i64 (s.st i)]
  have bb := hB.blk 0 rfl
  have e2 := cell_alloc c2 (.cells #[.int .i64 (C.prio i), .int .i64 (C.burst i), .int .u64 (C.B i), .int .u64 (C.P i), .pointer (some ⟨mp i, 0, none⟩), .int .i64 (s.st i)] 194)
  have e3 := cell_alloc c3 (.cells #[.int .i64 (C.prio i), .int .i64 (C.burst i), .int .u64 (C.B i), .int .u64 (C.P i), .pointer (some ⟨mp i, 0, none⟩), .int .i64 (s.st i)] 194)
  have i0 : (0 : Int) ≤ (i : Int) := by omega
  have i1 : (i : Int) < (C.n : Int) := by omega
  have HL := Lib.hid (fun q => bus_left (hB.drewN q) (k + 1) hk hi hnow)
  by_cases h1 : 0 < C.burst i
  · have d1 : decide (0 < C.burst i) = true := decide_eq_true h1
    by_cases h2 : s.who = i
    · have d2 : (s.who == (i : Int)) = true := beq_iff_eq.2 h2
      have H2 := Lib.hid h2
      by_cases h3 : C.burst i ≤ s.row
      · have d3 : decide (C.burst i ≤ s.row) = true := decide_eq_true h3
        have hm : mayB C s.ws s.who s.row now i = false := by simp [mayB, h1, h2, h3]
        have HM := Lib.hid hm
        clear hm h2
        go_enter Tryz.func124, Tryz.ntmps124
        go_wp2_with fail
        go_quiet (fail)
        go_wp2_with fail
        go_ret
        exact ⟨by rw [HM.out]; rfl, (hB.drewN _).drop 0 (by simp)⟩
      · have d3 : decide (C.burst i ≤ s.row) = false := decide_eq_false h3
        have HM := Lib.hid (show mayB C s.ws s.who s.row now i = decide (0 < C.left s.ws i now) by simp [mayB, h3])
        clear h2
        go_enter Tryz.func124, Tryz.ntmps124
        go_wp2_with fail
        go_quiet (fail)
        go_wp2_with fail
        refine (HL.out _).mono ?_
        rintro e w1 ⟨rfl, s1⟩
        go_wp2_with fail
        go_ret
        exact ⟨by rw [HM.out]; rfl, s1.drop 0 (by simp)⟩
    · have d2 : (s.who == (i : Int)) = false := beq_eq_false_iff_ne.2 h2
      have HM := Lib.hid (show mayB C s.ws s.who s.row now i = decide (0 < C.left s.ws i now) by simp [mayB, h2])
      go_enter Tryz.func124, Tryz.ntmps124
      go_wp2_with fail
      go_quiet (fail)
      go_wp2_with fail
      refine (HL.out _).mono ?_
      rintro e w1 ⟨rfl, s1⟩
      go_wp2_with fail
      go_ret
      exact ⟨by rw [HM.out]; rfl, s1.drop 0 (by simp)⟩
  · have d1 : decide (0 < C.burst i) = false := decide_eq_false h1
    have HM := Lib.hid (show mayB C s.ws s.who s.row now i = decide (0 < C.left s.ws i now) by simp [mayB, h1])
    go_enter Tryz.func124, Tryz.ntmps124
    go_wp2_with fail
    go_quiet (fail)
    go_wp2_with fail
    refine (HL.out _).mono ?_
    rintro e w1 ⟨rfl, s1⟩
    go_wp2_with fail
    go_ret
    exact ⟨by rw [HM.out]; rfl, s1.drop 0 (by simp)⟩
end
end
section
set_option linter.unusedVariables false
set_option maxRecDepth 100000
set_option maxHeartbeats 400000
section
variable {w0 w w' : World} {S0 : Nat → Prop} {L : List Res} {C : BC} {b g : Nat} {mp : Nat → Nat} {M now : Int} {s : BS} {k : Nat}
theorem bcl {x : Bool} {mk bb nb : Nat} (H : St w0 S0 w L) (k : Nat) (hk : L[k]? = some (BusR C b g mp now s)) (hC : C.OK) {i : Nat} (hi : i < C.n) (hnow : now < 4611686018427387904)
    (cm : w.cell? ⟨mk, i, none⟩ = some (.bool x)) (cb : w.cell? ⟨bb, 0, none⟩ = some (.pointer (some ⟨b, 0, none⟩))) (cn : w.cell? ⟨nb, 0, none⟩ = some (.int .u64 now)) :
    Calls Tryz.prog 123 #[.int .i64 i, .pointer (some ⟨mk, 0, none⟩), .pointer (some ⟨bb, 0, none⟩), .pointer (some ⟨nb, 0, none⟩)] w fun e w' => e = .returned (.bool (x && mayB C s.ws s.who s.row now i)) ∧ St w0 S0 w' L := by
  have hn := hC.n16
  have i0 : (0 : Int) ≤ (i : Int) := by omega
  have i1 : (i : Int) < 16 := by omega
  cases x with
  | false =>
    go_enter Tryz.func123, Tryz.ntmps123
    go_wp2_with fail
    go_ret
    exact ⟨rfl, H⟩
  | true =>
    go_enter Tryz.func123, Tryz.ntmps123
    go_wp2_with fail
    refine (bmay H k hk hC hi hnow).mono ?_
    rintro e w1 ⟨rfl, s1⟩
    go_wp2_with fail
    go_ret
    exact ⟨by rw [Bool.true_and]; rfl, s1⟩
theorem bfirst {q : Nat → Bool} {p1 p2 p3 : Value} (H : St w0 S0 w L) (k : Nat) (hk : L[k]? = some (BusR C b g mp now s)) (hC : C.OK)
    (hq : ∀ wr, St w0 S0 wr L → ∀ i, i < C.n → Calls Tryz.prog 123 #[.int .i64 i, p1, p2, p3] wr fun e w' => e = .returned (.bool (q i)) ∧ St w0 S0 w' L) :
    Calls Tryz.prog 122 #[.pointer (some ⟨b, 0, none⟩), .func (Fn.func 123) #[] #[p1, p2, p3]] w fun e w' => e = .returned (.int .i64 (fst q C.prio C.n)) ∧ St w0 S0 w' L := by
  obtain ⟨c0, c1, c2, c3⟩ := (bus_blk H k hk).four
  have hn := hC.n16
  have HQ := Lib.hid hq
  have HH := Lib.hid H
  clear hq H
  go_enter Tryz.func122, Tryz.ntmps122
  go_wp2_with fail
  go_loopw [5, 12] (fun f i wr => ∃ j : Nat, j ≤ C.n ∧ i = .int .i64 j ∧ f = .int .i64 (fst q C.prio j) ∧ St w0 S0 wr L) (fun _ i _ => C.n - (intOf i).toNat)
  case atStart => exact ⟨0, by omega, rfl, rfl, HH.out⟩
  case round =>
    clear c0 c1 c2 c3
    obtain ⟨j, hj, rfl, rfl, sr⟩ := hrel
    have hbd := fst_bd q C.prio j
    by_cases hlt : j < C.n
    · have SR := Lib.hid sr
      clear sr
      have f0 : ∀ u : Within (fun wr => St w0 S0 wr L), u.w.cell? ⟨b, 0, none⟩ = some (.slice (some ⟨g, 0, none⟩) C.n C.n) := fun u => (bus_blk u.h k hk).four.1
      have f1 : ∀ u : Within (fun wr => St w0 S0 wr L), u.w.cell? ⟨g, j * 6, none⟩ = some (.int .i64 (C.prio j)) := fun u => (bus_cells u.h k hk hlt).1
      haveI : Nonempty (Within (fun wr => St w0 S0 wr L)) := ⟨⟨_, SR.out⟩⟩
      have i0 : (0 : Int) ≤ (j : Int) := by omega
      have i1 : (j : Int) < (C.n : Int) := by omega
      cases hv : q j with
      | false =>
        have HF := Lib.hid (fst_no (q := q) (prio := C.prio) (k := j) (by rw [hv]; simp))
        have HC := Lib.hid (fun wr h => (HQ.out wr h j hlt).mono fun e w' (h : e = .returned (.bool (q j)) ∧ St w0 S0 w' L) => (⟨by rw [h.1, hv], h.2⟩ : e = .returned (.bool false) ∧ St w0 S0 w' L))
        generalize fst q C.prio j = r at *
        clear hv
        go_wp2_with fail
        refine wp_region_in (fun wr => St w0 S0 wr L) (by kernel_rfl) (by kernel_rfl) SR.out.drew ?_
        repeat (go_big_quiet_step ((go_at_call 123; exact in_call (p := fun wr => St w0 S0 wr L) (HC.out _ (Within.h (p := fun wr => St w0 S0 wr L) _)))))
        refine wpQuiet_nil ?_
        rintro _ ⟨⟨wq, sq⟩, rfl⟩
        go_wp2
        go_roundw
        case rel => exact ⟨j + 1, by omega, by go_num, by rw [HF.out], sq⟩
        case measure => simp [intOf]; omega
      | true =>
        have HC := Lib.hid (fun wr h => (HQ.out wr h j hlt).mono fun e w' (h : e = .returned (.bool (q j)) ∧ St w0 S0 w' L) => (⟨by rw [h.1, hv], h.2⟩ : e = .returned (.bool true) ∧ St w0 S0 w' L))
        by_cases hr : fst q C.prio j = -1
        · have HF := Lib.hid (fst_yes (q := q) (prio := C.prio) (k := j) hv (Or.inl hr))
          have d1 : (fst q C.prio j == -1) = true := beq_iff_eq.2 hr
          generalize fst q C.prio j = r at *
          clear hv hr
          go_wp2_with fail
          refine wp_region_in (fun wr => St w0 S0 wr L) (by kernel_rfl) (by kernel_rfl) SR.out.drew ?_
          repeat (go_big_quiet_step ((go_at_call 123; exact in_call (p := fun wr => St w0 S0 wr L) (HC.out _ (Within.h (p := fun wr => St w0 S0 wr L) _)))))
          refine wpQuiet_nil ?_
          rintro _ ⟨⟨wq, sq⟩, rfl⟩
          go_wp2
          go_roundw
          case rel => exact ⟨j + 1, by omega, by go_num, by rw [HF.out], sq⟩
          case measure => simp [intOf]; omega
        · obtain ⟨c, hc⟩ : ∃ c : Nat, fst q C.prio j = c := ⟨(fst q C.prio j).toNat, by omega⟩
          have hcn : c < C.n := by omega
          have f2 : ∀ u : Within (fun wr => St w0 S0 wr L), u.w.cell? ⟨g, c * 6, none⟩ = some (.int .i64 (C.prio c)) := fun u => (bus_cells u.h k hk hcn).1
          have i2 : (0 : Int) ≤ (c : Int) := by omega
          have i3 : (c : Int) < (C.n : Int) := by omega
          have d1 : ((c : Int) == -1) = false := beq_eq_false_iff_ne.2 (by omega)
          by_cases hp : C.prio j < C.prio c
          · have HF := Lib.hid (fst_yes (q := q) (prio := C.prio) (k := j) hv (Or.inr (by rw [hc]; simpa using hp)))
            have d2 : decide (C.prio j < C.prio c) = true := decide_eq_true hp
            rw [hc]
            clear hv hr hc hbd hp
            go_wp2_with fail
            refine wp_region_in (fun wr => St w0 S0 wr L) (by kernel_rfl) (by kernel_rfl) SR.out.drew ?_
            repeat (go_big_quiet_step ((go_at_call 123; exact in_call (p := fun wr => St w0 S0 wr L) (HC.out _ (Within.h (p := fun wr => St w0 S0 wr L) _)))))
            refine wpQuiet_nil ?_
            rintro _ ⟨⟨wq, sq⟩, rfl⟩
            go_wp2
            go_roundw
            case rel => exact ⟨j + 1, by omega, by go_num, by rw [HF.out], sq⟩
            case measure => simp [intOf]; omega
          · have HF := Lib.hid (fst_no (q := q) (prio := C.prio) (k := j) (by rw [hc]; rintro ⟨_, h | h⟩; omega; simp at h; omega))
            have HCC := Lib.hid hc
            have d2 : decide (C.prio j < C.prio c) = false := decide_eq_false hp
            rw [hc]
            clear hv hr hc hbd hp
            go_wp2_with fail
            refine wp_region_in (fun wr => St w0 S0 wr L) (by kernel_rfl) (by kernel_rfl) SR.out.drew ?_
            repeat (go_big_quiet_step ((go_at_call 123; exact in_call (p := fun wr => St w0 S0 wr L) (HC.out _ (Within.h (p := fun wr => St w0 S0 wr L) _)))))
            refine wpQuiet_nil ?_
            rintro _ ⟨⟨wq, sq⟩, rfl⟩
            go_wp2
            go_roundw
            case rel => exact ⟨j + 1, by omega, by go_num, by rw [HF.out, HCC.out], sq⟩
            case measure => simp [intOf]; omega
    · obtain rfl : j = C.n := by omega
      have SR := Lib.hid sr
      clear sr hbd
      go_wp2
      go_ret
      exact ⟨rfl, SR.out⟩
end
end
section
set_option linter.unusedVariables false
set_option maxRecDepth 100000
set_option maxHeartbeats 400000
/-- Those below k are counted. -/
def stlK (st : Nat → Int) (want : Nat → Bool) (b : Int) (k : Nat) : Nat → Int := fun i => if i < k then stl st want b i else st i
theorem stlK_zero (st : Nat → Int) (want : Nat → Bool) (b : Int) : stlK st want b 0 = st := by funext i; simp [stlK]
theorem stlK_yes {st : Nat → Int} {want : Nat → Bool} {b : Int} {k : Nat} (h1 : want k = true) (h2 : (k : Int) ≠ b) : upd (stlK st want b k) k (st k + 1) = stlK st want b (k + 1) := by
  funext i
  unfold upd stlK
  by_cases e : i = k
  · subst e; simp [stl, h1, h2]
  · rw [if_neg e]; by_cases h : i < k
    · rw [if_pos h, if_pos (by omega)]
    · rw [if_neg h, if_neg (by omega)]
theorem stlK_no {st : Nat → Int} {want : Nat → Bool} {b : Int} {k : Nat} (h : ¬ (want k = true ∧ (k : Int) ≠ b)) : stlK st want b k = stlK st want b (k + 1) := by
  funext i
  unfold stlK
  by_cases e : i = k
  · subst e; simp [stl, h]
  · by_cases h : i < k
    · rw [if_pos h, if_pos (by omega)]
    · rw [if_neg h, if_neg (by omega)]
theorem stlK_at (st : Nat → Int) (want : Nat → Bool) (b : Int) (k : Nat) : stlK st want b k k = st k := by simp [stlK]
theorem stlK_end {st : Nat → Int} {want : Nat → Bool} {b : Int} {n : Nat} {i : Nat} (h : i < n) : stlK st want b n i = stl st want b i := by simp [stlK, h]
section
variable {w0 w w' : World} {S0 : Nat → Prop} {L : List Res} {C : BC} {b g : Nat} {mp : Nat → Nat} {M now : Int} {s : BS} {k : Nat}
/-- Of the stalls only those of the masters count. -/
theorem bus_like {s' : BS} (H : St w0 S0 w L) (k : Nat) (hk : L[k]? = some (BusR C b g mp M s)) (h1 : ∀ i, i < C.n → s'.st i = s.st i) (h2 : s'.ws = s.ws) (h3 : s'.next = s.next) (h4 : s'.who = s.who) (h5 : s'.row = s.row) : St w0 S0 w (L.set k (BusR C b g mp M s')) := by
  obtain ⟨ws', st', next', who', row'⟩ := s'
  dsimp only at h1 h2 h3 h4 h5
  subst h2; subst h3; subst h4; subst h5
  exact H.turn hk (BusR.ok _ _ _ _ _ _) fun T h => ((St.start h).arr_like (V' := mcell C mp st') 1 rfl (fun j hj => by
    unfold mcell
    repeat (split; rfl)
    rw [h1 _ (by omega)])).fin fun S' h' => h'
theorem bstall {m : Nat → Bool} (v : Int) (H : St w0 S0 w L) (k : Nat) (hk : L[k]? = some (BusR C b g mp M s)) (hC : C.OK) (hb : ∀ i, i < C.n → 0 ≤ s.st i ∧ s.st i < 4611686018427387904) :
    Calls Tryz.prog 125 #[.pointer (some ⟨b, 0, none⟩), .agg (marksV m), .int .i64 v] w fun e w' => e = .returned (.tuple #[]) ∧ St w0 S0 w' (L.set k (BusR C b g mp M { s with st := stl s.st m v })) := by
  obtain ⟨c0, c1, c2, c3⟩ := (bus_blk H k hk).four
  have c0 := cell_alloc c0 (.cells (marksV m) 232)
  have hn := hC.n16
  have hkl := (List.getElem?_eq_some_iff.1 hk).1
  have s1 : St w0 S0 _ (ArrR w.heap.size 232 16 (fun j => .bool (m j)) :: L) := (H.box_arr 232 (marksV m) 16 _ rfl (fun i hi => by
    match i, hi with
    | 0, _ | 1, _ | 2, _ | 3, _ | 4, _ | 5, _ | 6, _ | 7, _ | 8, _ | 9, _ | 10, _ | 11, _ | 12, _ | 13, _ | 14, _ | 15, _ => rfl
    | n + 16, h => omega)).comm
  have S1 := Lib.hid (show St w0 S0 _ (ArrR w.heap.size 232 16 (fun j => .bool (m j)) :: L.set k (BusR C b g mp M { s with st := stlK s.st m v 0 })) by rw [stlK_zero, set_same hk]; exact s1)
  clear s1 H
  unfold marksV at S1 c0
  unfold marksV
  go_enter Tryz.func125, Tryz.ntmps125
  go_wp2_with fail
  go_loopw [12] (fun i wr => ∃ j : Nat, j ≤ C.n ∧ i = .int .i64 j ∧ St w0 S0 wr (ArrR w.heap.size 232 16 (fun j => .bool (m j)) :: L.set k (BusR C b g mp M { s with st := stlK s.st m v j }))) (fun i _ => C.n - (intOf i).toNat)
  case atStart => exact ⟨0, by omega, rfl, S1.out⟩
  case round =>
    clear c0 S1
    obtain ⟨j, hj, rfl, sr⟩ := hrel
    by_cases hlt : j < C.n
    · have hk2 : (ArrR w.heap.size 232 16 (fun j => .bool (m j)) :: L.set k (BusR C b g mp M { s with st := stlK s.st m v j }))[k + 1]? = some (BusR C b g mp M { s with st := stlK s.st m v j }) := by
        rw [List.getElem?_cons_succ, List.getElem?_set_self hkl]
      have cm := sr.arr_cell 0 rfl (show j < 16 by omega)
      have q0 := (bus_blk sr (k + 1) hk2).four.1
      have q5 := (bus_cells sr (k + 1) hk2 hlt).2.2.2.2.2
      have qf := bus_frozen sr (k + 1) hk2 (j * 6 + 5)
      dsimp only at q5
      rw [stlK_at] at q5
      have i0 : (0 : Int) ≤ (j : Int) := by omega
      have i1 : (j : Int) < (C.n : Int) := by omega
      have i2 : (j : Int) < 16 := by omega
      have hbj := hb j hlt
      by_cases hw : m j = true
      · by_cases hv : (j : Int) = v
        · have hS := Lib.hid (show St w0 S0 wr (ArrR w.heap.size 232 16 (fun j => .bool (m j)) :: L.set k (BusR C b g mp M { s with st := stlK s.st m v (j + 1) })) by rw [← stlK_no (fun h => h.2 hv)]; exact sr)
          rw [hw] at cm
          have d1 : ((j : Int) == v) = true := beq_iff_eq.2 hv
          have d2 : ((j : Int) != v) = false := by simp [bne, d1]
          clear hw hv sr hk2
          go_wp2
          go_roundw
          case rel => exact ⟨j + 1, by omega, by go_num, hS.out⟩
          case measure => simp [intOf]; omega
        · have hS' := bus_stalls sr (k + 1) hk2 hlt (s.st j + 1)
          have hS := Lib.hid (show St w0 S0 _ (ArrR w.heap.size 232 16 (fun j => .bool (m j)) :: L.set k (BusR C b g mp M { s with st := stlK s.st m v (j + 1) })) by
            dsimp only at hS'
            rw [stlK_yes hw hv, List.set_cons_succ, List.set_set] at hS'
            exact hS')
          rw [hw] at cm
          have d1 : ((j : Int) == v) = false := beq_eq_false_iff_ne.2 hv
          have d2 : ((j : Int) != v) = true := by simp [bne, d1]
          clear hw hv sr hS' hk2
          go_wp2
          go_roundw
          case rel => exact ⟨j + 1, by omega, by go_num, hS.out⟩
          case measure => simp [intOf]; omega
      · have hS := Lib.hid (show St w0 S0 wr (ArrR w.heap.size 232 16 (fun j => .bool (m j)) :: L.set k (BusR C b g mp M { s with st := stlK s.st m v (j + 1) })) by rw [← stlK_no (fun h => hw h.1)]; exact sr)
        have hw' : m j = false := by simpa using hw
        rw [hw'] at cm
        clear hw hw' sr hk2
        go_wp2
        go_roundw
        case rel => exact ⟨j + 1, by omega, by go_num, hS.out⟩
        case measure => simp [intOf]; omega
    · obtain rfl : j = C.n := by omega
      have hS := Lib.hid (show St w0 S0 wr (L.set k (BusR C b g mp M { s with st := stl s.st m v })) by
        have h2 := sr.drop 0 (by simp)
        have h3 : St w0 S0 wr (L.set k (BusR C b g mp M { s with st := stlK s.st m v C.n })) := h2
        have h4 := bus_like (s' := { s with st := stl s.st m v }) h3 k (List.getElem?_set_self hkl) (fun i hi => (stlK_end hi).symm) rfl rfl rfl rfl
        rwa [List.set_set] at h4)
      clear sr
      go_wp2
      go_end0
      exact ⟨rfl, hS.out⟩
theorem bhave_no (H : St w0 S0 w L) (k : Nat) (hk : L[k]? = some (BusR C b g mp M s)) (hnow : 0 ≤ now ∧ now < 4611686018427387904) :
    Calls Tryz.prog 126 #[.pointer (some ⟨b, 0, none⟩), .int .u64 now, .int .i64 (-1)] w fun e w' => e = .returned (.tuple #[]) ∧ St w0 S0 w' (L.set k (BusR C b g mp M { s with next := now + 1, who := -1, row := 0 })) := by
  have hkl := (List.getElem?_eq_some_iff.1 hk).1
  have hB := bus_blk H k hk
  obtain ⟨c0, c1, c2, c3⟩ := hB.four
  have f1 := hB.frozen 1
  have f2 := hB.frozen 2
  have f3 := hB.frozen 3
  have h1 := bus_who H k hk (-1)
  have h2 := bus_row h1 k (List.getElem?_set_self hkl) 0
  have h3 := bus_next h2 k (List.getElem?_set_self (by simpa using hkl)) (now + 1)
  simp only [List.set_set] at h3
  have HS := Lib.hid h3
  clear h1 h2 h3 H hk
  by_cases hw : s.who = -1
  · have d1 : ((-1 : Int) == s.who) = true := beq_iff_eq.2 hw.symm
    have d2 : ((-1 : Int) != s.who) = false := by simp [bne, d1]
    clear hw
    go_enter Tryz.func126, Tryz.ntmps126
    go_wp2
    refine bodyPost_ret (v := .tuple #[]) ?_ rfl ⟨rfl, HS.out⟩
    simp [results, go_sem]
  · have d1 : ((-1 : Int) == s.who) = false := beq_eq_false_iff_ne.2 (Ne.symm hw)
    have d2 : ((-1 : Int) != s.who) = true := by simp [bne, d1]
    clear hw
    go_enter Tryz.func126, Tryz.ntmps126
    go_wp2
    refine bodyPost_ret (v := .tuple #[]) ?_ rfl ⟨rfl, HS.out⟩
    simp [results, go_sem]
theorem bhave_yes (H : St w0 S0 w L) (k : Nat) (hk : L[k]? = some (BusR C b g mp now s)) (hC : C.OK) (hnow : 0 ≤ now ∧ now < 4611686018427387904) {i : Nat} (hi : i < C.n) (hl : 0 < C.left s.ws i now) (hr : 0 ≤ s.row ∧ s.row < 4611686018427387904) :
    Calls Tryz.prog 126 #[.pointer (some ⟨b, 0, none⟩), .int .u64 now, .int .i64 i] w fun e w' => e = .returned (.tuple #[]) ∧
      St w0 S0 w' (L.set k (BusR C b g mp now ⟨upd s.ws i (s.ws i ++ [(C.K i now, 1)]), s.st, now + 1, i, (if s.who = i then s.row else 0) + 1⟩)) := by
  have hn := hC.n16
  have hkl := (List.getElem?_eq_some_iff.1 hk).1
  have hB := bus_blk H k hk
  obtain ⟨c0, c1, c2, c3⟩ := hB.four
  have m4 := (bus_cells H k hk hi).2.2.2.2.1
  have hgb := hB.lt
  have hne : g ≠ b := by
    intro e
    obtain ⟨S, F, f1, f2, f3, f4⟩ := H.get k hk
    have h0 := (f1 0 _ rfl).2.2
    obtain ⟨arr, hb, _, _, h1⟩ := (f1 1 _ rfl).2
    exact absurd (f2 0 1 b ((h0 b).2 rfl) ((h1 b).2 e.symm)) (by omega)
  have f1 := hB.frozen 1
  have f2 := hB.frozen 2
  have f3 := hB.frozen 3
  have i0 : (0 : Int) ≤ (i : Int) := by omega
  have i1 : (i : Int) < (C.n : Int) := by omega
  have di : ((i : Int) == -1) = false := beq_eq_false_iff_ne.2 (by omega)
  by_cases hw : s.who = i
  · have h1 := bus_next H k hk (now + 1)
    have h2 := bus_row h1 k (List.getElem?_set_self hkl) (s.row + 1)
    simp only [List.set_set] at h2
    rw [if_pos hw]
    have d1 : ((i : Int) == s.who) = true := beq_iff_eq.2 hw.symm
    have d2 : ((i : Int) != s.who) = false := by simp [bne, d1]
    have HT := Lib.hid (bus_take h2 k (List.getElem?_set_self (by simpa using hkl)) hi hnow.2 hl)
    have HW := Lib.hid hw
    clear h1 h2 H hk hl hw
    go_enter Tryz.func126, Tryz.ntmps126
    go_wp2_with fail
    refine HT.out.mono ?_
    rintro e w9 ⟨rfl, s9⟩
    simp only [List.set_set] at s9
    rw [HW.out] at s9
    have S9 := Lib.hid s9
    clear s9
    go_wp2_with fail
    go_end0
    exact ⟨rfl, S9.out⟩
  · have h1 := bus_who H k hk i
    have h2 := bus_row h1 k (List.getElem?_set_self hkl) 0
    have h3 := bus_next h2 k (List.getElem?_set_self (by simpa using hkl)) (now + 1)
    have h4 := bus_row h3 k (List.getElem?_set_self (by simpa using hkl)) 1
    simp only [List.set_set] at h4
    have HT := Lib.hid (bus_take h4 k (List.getElem?_set_self (by simpa using hkl)) hi hnow.2 hl)
    rw [if_neg hw]
    have d1 : ((i : Int) == s.who) = false := beq_eq_false_iff_ne.2 (Ne.symm hw)
    have d2 : ((i : Int) != s.who) = true := by simp [bne, d1]
    clear h1 h2 h3 h4 H hk hl hw
    go_enter Tryz.func126, Tryz.ntmps126
    go_wp2_with fail
    refine HT.out.mono ?_
    rintro e w9 ⟨rfl, s9⟩
    simp only [List.set_set] at s9
    have S9 := Lib.hid s9
    clear s9
    go_wp2_with fail
    go_end0
    exact ⟨rfl, S9.out⟩
end
end
section
set_option linter.unusedVariables false
set_option maxRecDepth 100000
set_option maxHeartbeats 400000
theorem c16i {w : World} {g : Nat} {t : TypeId} {m : Nat → Bool} (h : Blk w g t (marksV m)) {i : Nat} (hi : i < 16) : w.cell? ⟨g, i, none⟩ = some (.bool (m i)) := by
  rw [h.cell]
  match i, hi with
  | 0, _ | 1, _ | 2, _ | 3, _ | 4, _ | 5, _ | 6, _ | 7, _ | 8, _ | 9, _ | 10, _ | 11, _ | 12, _ | 13, _ | 14, _ | 15, _ => rfl
  | n + 16, h => omega
section
variable {w0 w w' : World} {S0 : Nat → Prop} {L : List Res} {C : BC} {b g : Nat} {mp : Nat → Nat} {M now : Int} {s : BS} {k : Nat}
theorem slot_hor {A : Option Addr} {nw cap : Nat} (hl : ¬ now < 4611686018427387904) :
    Calls Tryz.prog 63 #[.pointer (some ⟨b, 0, none⟩), .int .u64 now, .slice A nw cap] w fun e w' => e = .returned (.tuple #[.int .i64 0, .int .i64 2]) ∧ Below w.heap.size w w' := by
  go_enter Tryz.func63, Tryz.ntmps63
  go_wp2_with fail
  refine (tmay_no _ _ (by omega)).mono ?_
  rintro e w' ⟨rfl, rfl⟩
  go_wp2_with fail
  go_ret2
  exact ⟨rfl, ((Below.refl _ _).alloc (Nat.le_refl _) _).alloc (by simp) _⟩
theorem slot_arg1 {A : Option Addr} {nw cap : Nat} {f : Nat → Int} (hl : now < 4611686018427387904) (c0 : w.cell? ⟨b, 0, none⟩ = some (.slice (some ⟨g, 0, none⟩) C.n C.n)) (hn : C.n ≤ 16) (hm : nw ≤ maxLen) (rd : Rd w A nw (fun j => .int .i64 (f j)))
    (hf : ¬ ∀ j, j < nw → 0 ≤ f j ∧ f j < C.n) :
    Calls Tryz.prog 63 #[.pointer (some ⟨b, 0, none⟩), .int .u64 now, .slice A nw cap] w fun e w' => e = .returned (.tuple #[.int .i64 0, .int .i64 1]) ∧ Below w.heap.size w w' := by
  have hb2 : Below w.heap.size w _ := ((Below.refl w.heap.size w).alloc (Nat.le_refl _) (.cells #[.pointer (some ⟨b, 0, none⟩)] 89)).alloc (by simp) (.cells #[.int .u64 now] 34)
  have MK := mark_no (cap := cap) (cell_alloc (cell_alloc c0 (.cells #[.pointer (some ⟨b, 0, none⟩)] 89)) (.cells #[.int .u64 now] 34)) hn hm (rd.below hb2 (Nat.le_refl _)) hf
  unfold marksV at MK
  have HM := Lib.hid MK
  have hbl := block_lt c0
  clear MK rd hf c0
  go_enter Tryz.func63, Tryz.ntmps63
  go_wp2_with fail
  refine (tmay_yes _ _ hl).mono ?_
  rintro e w' ⟨rfl, rfl⟩
  go_wp2_with fail
  refine HM.out.mono ?_
  rintro e w2 ⟨rfl, hw2⟩
  have hb3 := below_then hb2 hw2
  go_wp2_with fail
  go_quiet (fail)
  go_wp2_with fail
  go_ret2
  exact ⟨rfl, below_drewN (hb3.alloc hb3.size _) _⟩
theorem slot_arg2 {A : Option Addr} {nw cap : Nat} {f : Nat → Int} (hl : now < 4611686018427387904) (hB : Blk w b 189 #[.slice (some ⟨g, 0, none⟩) C.n C.n, .int .u64 s.next, .int .i64 s.who, .int .i64 s.row]) (hn : C.n ≤ 16) (hm : nw ≤ maxLen) (rd : Rd w A nw (fun j => .int .i64 (f j)))
    (hf : ∀ j, j < nw → 0 ≤ f j ∧ f j < C.n) (hx : now < s.next) :
    Calls Tryz.prog 63 #[.pointer (some ⟨b, 0, none⟩), .int .u64 now, .slice A nw cap] w fun e w' => e = .returned (.tuple #[.int .i64 0, .int .i64 1]) ∧ Below w.heap.size w w' := by
  have hb2 : Below w.heap.size w _ := ((Below.refl w.heap.size w).alloc (Nat.le_refl _) (.cells #[.pointer (some ⟨b, 0, none⟩)] 89)).alloc (by simp) (.cells #[.int .u64 now] 34)
  have MK := mark_yes (cap := cap) (C := C) (g := g) (cell_alloc (cell_alloc hB.four.1 (.cells #[.pointer (some ⟨b, 0, none⟩)] 89)) (.cells #[.int .u64 now] 34)) hn hm (rd.below hb2 (Nat.le_refl _)) hf
  unfold marksV at MK
  have HM := Lib.hid MK
  have d1 : decide (now < s.next) = true := decide_eq_true hx
  have sa : St w None ((w.alloc (.cells #[.pointer (some ⟨b, 0, none⟩)] 89)).alloc (.cells #[.int .u64 now] 34)) [BlkR w.heap.size 89 #[.pointer (some ⟨b, 0, none⟩)], BlkR (w.heap.size + 1) 34 #[.int .u64 now]] := by simpa using ((St.begin w).box 89 #[.pointer (some ⟨b, 0, none⟩)]).box 34 #[.int .u64 now]
  have HB := Lib.hid (fun (wr : World) (h : Below w.heap.size w wr) => (hB.below h hB.lt).four.2.1)
  clear MK rd hf hB
  go_enter Tryz.func63, Tryz.ntmps63
  go_wp2_with fail
  refine (tmay_yes _ _ hl).mono ?_
  rintro e w' ⟨rfl, rfl⟩
  go_wp2_with fail
  refine HM.out.mono ?_
  rintro e w2 ⟨rfl, hw2⟩
  generalize wantB nw f = m at *
  have s2 := sa.stay hw2
  have s3 := s2.alloc (.cells #[.bool (m 0), .bool (m 1), .bool (m 2), .bool (m 3), .bool (m 4), .bool (m 5), .bool (m 6), .bool (m 7), .bool (m 8), .bool (m 9), .bool (m 10), .bool (m 11), .bool (m 12), .bool (m 13), .bool (m 14), .bool (m 15)] 232)
  have q0 := (s3.blk 0 rfl).one
  have q1 := (s3.blk 1 rfl).one
  have q2 := HB.out _ s3.below
  clear sa s2 HM HB
  go_wp2_with fail
  go_quiet (fail)
  go_wp2_with fail
  go_ret2
  exact ⟨rfl, (s3.drewN _).below⟩
/-- The slot is some master's, or nobody's. -/
theorem slot_main {A : Option Addr} {nw cap kk : Nat} {f : Nat → Int} {S : Nat → Prop} (hw : BusR C b g mp s.next s w S) (hC : C.OK) (ho : s.OK C kk) (hkk : kk ≤ 2147483648) (hn0 : 0 ≤ now) (hl : now < 4611686018427387904) (hx : s.next ≤ now) (hm : nw ≤ maxLen) (rd : Rd w A nw (fun j => .int .i64 (f j)))
    (hf : ∀ j, j < nw → 0 ≤ f j ∧ f j < C.n) {v e0 : Int} {s' : BS} (hR : SlotR C s now true (wantB nw f) v e0 s') :
    Calls Tryz.prog 63 #[.pointer (some ⟨b, 0, none⟩), .int .u64 now, .slice A nw cap] w fun e w' => e = .returned (.tuple #[.int .i64 v, .int .i64 e0]) ∧ ∃ S', BusR C b g mp s'.next s' w' S' ∧ Did S S' w w' := by
  have hn := hC.n16
  have st0 : St w S w [BusR C b g mp now s] := bus_later (St.start (Star.one (BusR.ok _ _ _ _ _ _) hw)) 0 rfl hx
  have hB := bus_blk st0 0 rfl
  have hb2 : Below w.heap.size w _ := ((Below.refl w.heap.size w).alloc (Nat.le_refl _) (.cells #[.pointer (some ⟨b, 0, none⟩)] 89)).alloc (by simp) (.cells #[.int .u64 now] 34)
  have MK := mark_yes (cap := cap) (C := C) (g := g) (cell_alloc (cell_alloc hB.four.1 (.cells #[.pointer (some ⟨b, 0, none⟩)] 89)) (.cells #[.int .u64 now] 34)) hn hm (rd.below hb2 (Nat.le_refl _)) hf
  unfold marksV at MK
  have HM := Lib.hid MK
  have d1 : decide (now < s.next) = false := decide_eq_false (by omega)
  have sa : St w S ((w.alloc (.cells #[.pointer (some ⟨b, 0, none⟩)] 89)).alloc (.cells #[.int .u64 now] 34)) [BusR C b g mp now s, BlkR w.heap.size 89 #[.pointer (some ⟨b, 0, none⟩)], BlkR (w.heap.size + 1) 34 #[.int .u64 now]] := by
    simpa using (st0.box 89 #[.pointer (some ⟨b, 0, none⟩)]).box 34 #[.int .u64 now]
  have hw1 := who1_bd ho now
  have hr1 := row1_bd ho now
  have hst := ho.st
  have HR := Lib.hid hR
  clear MK rd hf hB st0 hw ho hR
  go_enter Tryz.func63, Tryz.ntmps63
  go_wp2_with fail
  refine (tmay_yes _ _ hl).mono ?_
  rintro e w' ⟨rfl, rfl⟩
  go_wp2_with fail
  refine HM.out.mono ?_
  rintro e w2 ⟨rfl, hw2⟩
  generalize wantB nw f = m at *
  generalize w.heap.size = h0 at sa HM hw2 ⊢
  have s2 : St w S _ [_, _, _] := sa.stay hw2
  have s3 : St w S _ [_, _, _, _] := s2.box 232 #[.bool (m 0), .bool (m 1), .bool (m 2), .bool (m 3), .bool (m 4), .bool (m 5), .bool (m 6), .bool (m 7), .bool (m 8), .bool (m 9), .bool (m 10), .bool (m 11), .bool (m 12), .bool (m 13), .bool (m 14), .bool (m 15)]
  have q0 := (s3.blk 1 rfl).one
  have q1 := (s3.blk 2 rfl).one
  obtain ⟨c0, c1, c2, c3⟩ := (bus_blk s3 0 rfl).four
  clear sa s2 HM hw2
  go_wp2_with fail
  generalize w2.heap.size = h3 at *
  go_quiet (fail)
  have s4 := s3.drewN nq
  clear s3 q0 q1 c0 c1 c2 c3
  generalize World.drewN _ nq = w4 at *
  have q0 := (s4.blk 1 rfl).one
  have q1 := (s4.blk 2 rfl).one
  obtain ⟨c0, c1, c2, c3⟩ := (bus_blk s4 0 rfl).four
  go_wp2_with fail
  go_quiet (fail)
  have s5 : St w S _ [_, _, _, _] := s4.drewN nq
  clear s4 q0 q1 c0 c1 c2 c3
  generalize World.drewN _ nq = w5 at *
  have q0 := (s5.blk 1 rfl).one
  have q1 := (s5.blk 2 rfl).one
  obtain ⟨c0, c1, c2, c3⟩ := (bus_blk s5 0 rfl).four
  go_upto_if 35 with (fail)
  go_cut [] (fun wx => St w S wx [BusR C b g mp now ⟨s.ws, s.st, s.next, s.who1 now, s.row1 now⟩, BlkR h0 89 #[.pointer (some ⟨b, 0, none⟩)], BlkR (h0 + 1) 34 #[.int .u64 now], BlkR h3 232 (marksV m)])
  case first =>
    by_cases hgt : s.next < now
    · have d2 : decide (s.next < now) = true := decide_eq_true hgt
      have e1 : s.who1 now = -1 := if_pos hgt
      have e2 : s.row1 now = 0 := if_pos hgt
      have f2 := (bus_blk s5 0 rfl).frozen 2
      have f3 := (bus_blk s5 0 rfl).frozen 3
      have HE := Lib.hid (And.intro e1 e2)
      clear e1 e2
      go_wp2_with fail
      go_region
      all_goals
        go_wp2_with fail
        go_meet
        rw [HE.out.1, HE.out.2]
        first
          | exact bus_row (bus_who s5.drew 0 rfl (-1)) 0 rfl 0
          | exact bus_who (bus_row s5.drew 0 rfl 0) 0 rfl (-1)
    · have d2 : decide (s.next < now) = false := decide_eq_false hgt
      have e1 : s.who1 now = s.who := if_neg hgt
      have e2 : s.row1 now = s.row := if_neg hgt
      have HE := Lib.hid (And.intro e1 e2)
      clear e1 e2
      go_wp2_with fail
      go_meet
      rw [HE.out.1, HE.out.2]
      exact s5
  case rest =>
  have s6 : St w S wc [BusR C b g mp now ⟨s.ws, s.st, s.next, s.who1 now, s.row1 now⟩, BlkR h0 89 #[.pointer (some ⟨b, 0, none⟩)], BlkR (h0 + 1) 34 #[.int .u64 now], BlkR h3 232 (marksV m)] := hcut
  clear s5 q0 q1 c0 c1 c2 c3 hcut
  have BF := bfirst (q := fun i => m i && mayB C s.ws (s.who1 now) (s.row1 now) now i) s6 0 rfl hC (fun wr hr i hi => bcl (s := ⟨s.ws, s.st, s.next, s.who1 now, s.row1 now⟩) hr 0 rfl hC hi hl (c16i (hr.blk 3 rfl) (by omega)) (hr.blk 1 rfl).one (hr.blk 2 rfl).one)
  have q0 := (s6.blk 1 rfl).one
  have q1 := (s6.blk 2 rfl).one
  clear s6
  rcases HR.out with ⟨h, _⟩ | ⟨_, h, _⟩ | ⟨_, _, _, hb, rfl, rfl, hs'⟩ | ⟨_, _, _, i, hbn, hb, rfl, rfl, hs'⟩
  · exact absurd hl h
  · exact absurd ⟨rfl, hx⟩ h
  · have HS' := Lib.hid hs'
    clear HR hs'
    rw [show fst (fun i => m i && mayB C s.ws (s.who1 now) (s.row1 now) now i) C.prio C.n = -1 from hb] at BF
    have HF := Lib.hid BF
    clear BF hb
    go_wp2_with fail
    refine HF.out.mono ?_
    rintro e w7 ⟨rfl, s7⟩
    have BT := bstall (m := m) (-1) s7 0 rfl hC (fun i hi => by have := hst i hi; dsimp only; omega)
    unfold marksV at BT
    have HT := Lib.hid BT
    obtain ⟨x0, x1, x2, x3, x4, x5, x6, x7, x8, x9, x10, x11, x12, x13, x14, x15⟩ := c16 (s7.blk 3 rfl)
    have q0 := (s7.blk 1 rfl).one
    have q1 := (s7.blk 2 rfl).one
    clear BT HF s7
    go_wp2_with fail
    refine HT.out.mono ?_
    rintro e w8 ⟨rfl, s8'⟩
    have s8 : St w S w8 [_, BlkR h0 89 #[.pointer (some ⟨b, 0, none⟩)], BlkR (h0 + 1) 34 #[.int .u64 now], BlkR h3 232 (marksV m)] := s8'
    clear s8' x0 x1 x2 x3 x4 x5 x6 x7 x8 x9 x10 x11 x12 x13 x14 x15 q0 q1 HT
    have q0 := (s8.blk 1 rfl).one
    have q1 := (s8.blk 2 rfl).one
    have HH := Lib.hid (bhave_no s8 0 rfl ⟨hn0, hl⟩)
    clear s8
    go_wp2_with fail
    refine HH.out.mono ?_
    rintro e w9 ⟨rfl, s9'⟩
    have s9 : St w S w9 [_] := s9'.take 1
    have s10 := bus_later s9 0 rfl (show now ≤ now + 1 by omega)
    have S10 := Lib.hid s10
    clear s9 s9' s10 HH q0 q1
    go_wp2_with fail
    go_ret2
    exact ⟨rfl, by rw [HS'.out]; exact S10.out.fin fun S' h => star_one h⟩
  · have hq := fst_q hb
    simp only [Bool.and_eq_true] at hq
    have hleft : 0 < C.left s.ws i now := by have := hq.2; unfold mayB at this; simp at this; exact this.2
    have di : ((i : Int) == -1) = false := beq_eq_false_iff_ne.2 (by omega)
    have HS' := Lib.hid hs'
    clear HR hq hs'
    rw [show fst (fun i => m i && mayB C s.ws (s.who1 now) (s.row1 now) now i) C.prio C.n = (i : Int) from hb] at BF
    have HF := Lib.hid BF
    clear BF hb
    go_wp2_with fail
    refine HF.out.mono ?_
    rintro e w7 ⟨rfl, s7⟩
    have BT := bstall (m := m) ((i : Int)) s7 0 rfl hC (fun i hi => by have := hst i hi; dsimp only; omega)
    unfold marksV at BT
    have HT := Lib.hid BT
    obtain ⟨x0, x1, x2, x3, x4, x5, x6, x7, x8, x9, x10, x11, x12, x13, x14, x15⟩ := c16 (s7.blk 3 rfl)
    have q0 := (s7.blk 1 rfl).one
    have q1 := (s7.blk 2 rfl).one
    clear BT HF s7
    go_wp2_with fail
    refine HT.out.mono ?_
    rintro e w8 ⟨rfl, s8'⟩
    have s8 : St w S w8 [_, BlkR h0 89 #[.pointer (some ⟨b, 0, none⟩)], BlkR (h0 + 1) 34 #[.int .u64 now], BlkR h3 232 (marksV m)] := s8'
    clear s8' x0 x1 x2 x3 x4 x5 x6 x7 x8 x9 x10 x11 x12 x13 x14 x15 q0 q1 HT
    have q0 := (s8.blk 1 rfl).one
    have q1 := (s8.blk 2 rfl).one
    have HH := Lib.hid (bhave_yes s8 0 rfl hC ⟨hn0, hl⟩ hbn hleft (by dsimp only; omega))
    clear s8
    go_wp2_with fail
    refine HH.out.mono ?_
    rintro e w9 ⟨rfl, s9'⟩
    have s9 : St w S w9 [_] := s9'.take 1
    have s10 := bus_later s9 0 rfl (show now ≤ now + 1 by omega)
    have S10 := Lib.hid s10
    clear s9 s9' s10 HH q0 q1
    go_wp2_with fail
    go_ret2
    exact ⟨rfl, by rw [HS'.out]; exact S10.out.fin fun S' h => star_one h⟩
end
end
section
set_option linter.unusedVariables false
set_option maxRecDepth 100000
set_option maxHeartbeats 400000
/-- A master that may be. -/
def okM (p u B P : Int) : Prop := (0 ≤ p ∧ p ≤ 100) ∧ (0 ≤ u ∧ u ≤ 1000) ∧ 1 ≤ B ∧ B ≤ P ∧ P ≤ 1099511627776
theorem bM_yes (p u B P : Int) (w : World) (h : okM p u B P) :
    Calls Tryz.prog 88 #[.agg #[.int .i64 p, .int .i64 u, .int .u64 B, .int .u64 P]] w fun e w' => e = .returned (.bool true) ∧ Below w.heap.size w w' := by
  obtain ⟨⟨h1, h2⟩, ⟨h3, h4⟩, h5⟩ := h
  have d1 : decide (0 ≤ p) = true := decide_eq_true h1
  have d2 : decide (p ≤ 100) = true := decide_eq_true h2
  have d3 : decide (0 ≤ u) = true := decide_eq_true h3
  have d4 : decide (u ≤ 1000) = true := decide_eq_true h4
  go_enter Tryz.func88, Tryz.ntmps88
  go_wp2_with fail
  refine (may_yes B P _ h5).mono ?_
  rintro e w1 ⟨rfl, hw1⟩
  go_wp2_with fail
  go_ret
  exact ⟨rfl, below_box hw1⟩
theorem bM_no (p u B P : Int) (w : World) (h : ¬ okM p u B P) :
    Calls Tryz.prog 88 #[.agg #[.int .i64 p, .int .i64 u, .int .u64 B, .int .u64 P]] w fun e w' => e = .returned (.bool false) ∧ Below w.heap.size w w' := by
  unfold okM at h
  by_cases h1 : 0 ≤ p
  · have d1 : decide (0 ≤ p) = true := decide_eq_true h1
    by_cases h2 : p ≤ 100
    · have d2 : decide (p ≤ 100) = true := decide_eq_true h2
      by_cases h3 : 0 ≤ u
      · have d3 : decide (0 ≤ u) = true := decide_eq_true h3
        by_cases h4 : u ≤ 1000
        · have d4 : decide (u ≤ 1000) = true := decide_eq_true h4
          have h5 : ¬ (1 ≤ B ∧ B ≤ P ∧ P ≤ 1099511627776) := fun h6 => h ⟨⟨h1, h2⟩, ⟨h3, h4⟩, h6⟩
          clear h
          have H5 := Lib.hid h5
          clear h5
          go_enter Tryz.func88, Tryz.ntmps88
          go_wp2_with fail
          refine (may_no B P _ H5.out).mono ?_
          rintro e w1 ⟨rfl, hw1⟩
          go_wp2_with fail
          go_ret
          exact ⟨rfl, below_box hw1⟩
        · have d4 : decide (u ≤ 1000) = false := decide_eq_false h4
          clear h
          go_enter Tryz.func88, Tryz.ntmps88
          go_wp2_with fail
          go_ret
          exact ⟨rfl, (Below.refl _ _).alloc (Nat.le_refl _) _⟩
      · have d3 : decide (0 ≤ u) = false := decide_eq_false h3
        clear h
        go_enter Tryz.func88, Tryz.ntmps88
        go_wp2_with fail
        go_ret
        exact ⟨rfl, (Below.refl _ _).alloc (Nat.le_refl _) _⟩
    · have d2 : decide (p ≤ 100) = false := decide_eq_false h2
      clear h
      go_enter Tryz.func88, Tryz.ntmps88
      go_wp2_with fail
      go_ret
      exact ⟨rfl, (Below.refl _ _).alloc (Nat.le_refl _) _⟩
  · have d1 : decide (0 ≤ p) = false := decide_eq_false h1
    clear h
    go_enter Tryz.func88, Tryz.ntmps88
    go_wp2_with fail
    go_ret
    exact ⟨rfl, (Below.refl _ _).alloc (Nat.le_refl _) _⟩
/-- Masters as they are read. -/
structure MV (C : BC) (V : Nat → Nat → Value) : Prop where
  v0 : ∀ j, j < C.n → V j 0 = .int .i64 (C.prio j)
  v1 : ∀ j, j < C.n → V j 1 = .int .i64 (C.burst j)
  v2 : ∀ j, j < C.n → V j 2 = .int .u64 (C.B j)
  v3 : ∀ j, j < C.n → V j 3 = .int .u64 (C.P j)
theorem MV.at_ {C : BC} {V : Nat → Nat → Value} (hV : MV C V) {w wr : World} {A : Option Addr} (rd : RdM w A C.n 4 V) (hb : Below w.heap.size w wr) {k : Nat} (hk : k < C.n) :
    ∃ b off, A = some ⟨b, off, none⟩ ∧ wr.cell? ⟨b, off + k * 4, none⟩ = some (.int .i64 (C.prio k)) ∧ wr.cell? ⟨b, off + k * 4 + 1, none⟩ = some (.int .i64 (C.burst k)) ∧ wr.cell? ⟨b, off + k * 4 + 2, none⟩ = some (.int .u64 (C.B k)) ∧ wr.cell? ⟨b, off + k * 4 + 3, none⟩ = some (.int .u64 (C.P k)) := by
  obtain ⟨b, off, e, e0, e1, e2, e3⟩ := rd.at4 hb hk
  exact ⟨b, off, e, by rw [e0, hV.v0 k hk], by rw [e1, hV.v1 k hk], by rw [e2, hV.v2 k hk], by rw [e3, hV.v3 k hk]⟩
section
variable {w0 w w' : World} {S0 : Nat → Prop} {L : List Res} {C : BC} {b g : Nat} {mp : Nat → Nat} {M now : Int} {s : BS} {k : Nat}
theorem bnew_len {A : Option Addr} {n cap : Nat} {ph : Int} (w : World) (h : ¬ (1 ≤ n ∧ n ≤ 16)) :
    Calls Tryz.prog 33 #[.slice A n cap, .int .u64 ph] w fun e w' => e = .returned (.tuple #[.pointer none, .int .i64 1]) ∧ Below w.heap.size w w' := by
  by_cases h1 : n < 1
  · obtain rfl : n = 0 := by omega
    clear h h1
    go_enter Tryz.func33, Tryz.ntmps33
    go_wp2_with fail
    go_ret2
    exact ⟨rfl, Below.refl _ _⟩
  · have d1 : decide ((n : Int) < 1) = false := decide_eq_false (by omega)
    have d2 : decide (16 < (n : Int)) = true := decide_eq_true (by omega)
    clear h h1
    go_enter Tryz.func33, Tryz.ntmps33
    go_wp2_with fail
    go_ret2
    exact ⟨rfl, Below.refl _ _⟩
theorem bnew_bad {A : Option Addr} {cap : Nat} {ph : Int} {V : Nat → Nat → Value} (w : World) (h1 : 1 ≤ C.n) (h16 : C.n ≤ 16) (rd : RdM w A C.n 4 V) (hV : MV C V) (h : ¬ ∀ i, i < C.n → okM (C.prio i) (C.burst i) (C.B i) (C.P i)) :
    Calls Tryz.prog 33 #[.slice A C.n cap, .int .u64 ph] w fun e w' => e = .returned (.tuple #[.pointer none, .int .i64 1]) ∧ Below w.heap.size w w' := by
  have d1 : decide ((C.n : Int) < 1) = false := decide_eq_false (by omega)
  have d2 : decide (16 < (C.n : Int)) = false := decide_eq_false (by omega)
  obtain ⟨i0, h2, h3, h4⟩ := first_bad h
  clear h
  go_enter Tryz.func33, Tryz.ntmps33
  go_wp2_with fail
  go_loopw [23] (fun i wr => ∃ k : Nat, k ≤ i0 ∧ i = .int .i64 k ∧ Below w.heap.size w wr) (fun i _ => C.n - (intOf i).toNat)
  case atStart => exact ⟨0, by omega, rfl, Below.refl _ _⟩
  case round =>
    obtain ⟨k, hk, rfl, hB⟩ := hrel
    have hlt : k < C.n := by omega
    obtain ⟨ib, off, rfl, e0, e1, e2, e3⟩ := hV.at_ rd hB hlt
    have hB2 := hB.alloc hB.size (.cells #[.int .i64 (C.prio k), .int .i64 (C.burst k), .int .u64 (C.B k), .int .u64 (C.P k)] 78)
    by_cases hlt2 : k < i0
    · have HY := Lib.hid (h4 k hlt2)
      clear h3 h4
      go_wp2_with fail
      refine (bM_yes _ _ _ _ _ HY.out).mono ?_
      rintro e w1 ⟨rfl, hw1⟩
      have hB3 := below_then hB2 hw1
      go_wp2
      go_roundw
      case rel => exact ⟨k + 1, by omega, by go_num, hB3⟩
      case measure => simp [intOf]; omega
    · obtain rfl : k = i0 := by omega
      have HY := Lib.hid h3
      clear h3 h4
      go_wp2_with fail
      refine (bM_no _ _ _ _ _ HY.out).mono ?_
      rintro e w1 ⟨rfl, hw1⟩
      have hB3 := below_then hB2 hw1
      go_wp2
      go_ret2
      exact ⟨rfl, hB3⟩
/-- Are all of them masters' numbers? -/
def okB (nw : Nat) (f : Nat → Int) (n : Nat) : Bool := decide (∀ j, j < nw → 0 ≤ f j ∧ f j < n)
/-- A bus between two calls. -/
abbrev BusP (C : BC) (b g : Nat) (mp : Nat → Nat) (s : BS) : Res := BusR C b g mp s.next s
theorem Slot_o {A : Option Addr} {nw cap kk : Nat} {f : Nat → Int} (H : St w0 S0 w L) (k : Nat) (hk : L[k]? = some (BusP C b g mp s)) (hC : C.OK) (ho : s.OK C kk) (hkk : kk ≤ 2147483648) (hn0 : 0 ≤ now) (hm : nw ≤ maxLen) (rd : Rd w A nw (fun j => .int .i64 (f j)))
    {v e0 : Int} {s' : BS} (hR : SlotR C s now (okB nw f C.n) (wantB nw f) v e0 s') :
    Calls Tryz.prog 63 #[.pointer (some ⟨b, 0, none⟩), .int .u64 now, .slice A nw cap] w fun e w' => e = .returned (.tuple #[.int .i64 v, .int .i64 e0]) ∧ St w0 S0 w' (L.set k (BusP C b g mp s')) := by
  have hB := bus_blk H k hk
  have stay : ∀ w', Below w.heap.size w w' → St w0 S0 w' (L.set k (BusP C b g mp s)) := fun w' h => by rw [set_same hk]; exact H.stay h
  by_cases hl : now < 4611686018427387904
  · by_cases hf : ∀ j, j < nw → 0 ≤ f j ∧ f j < C.n
    · have e1 : okB nw f C.n = true := decide_eq_true hf
      rw [e1] at hR
      by_cases hx : s.next ≤ now
      · obtain ⟨S, hs, hd⟩ := H
        have hll := (Star.ok L).lt hs
        obtain ⟨T, hT, hok, hTS, hput⟩ := hs.split hk
        refine (slot_main hT hC ho hkk hn0 hl hx hm rd hf hR).mono ?_
        rintro e w' ⟨hP, T', hT', hdid⟩
        refine ⟨hP, _, hput w' _ T' (BusR.ok _ _ _ _ _ _) hT' (fun b hb hn => hdid.block b (hll b hb) hn) (fun b hb => (hdid.own b hb).imp id fun h => fun h2 => by have := hll b h2; omega), ?_⟩
        exact ⟨hdid.os.trans hd.os, hdid.tape.trans hd.tape, hdid.output.trans hd.output, Nat.le_trans hd.size hdid.size,
          fun k hk hn => (hdid.block k (Nat.lt_of_lt_of_le hk hd.size) fun hkT => by rcases hd.own k (hTS k hkT) with h | h; exact hn h; omega).trans (hd.block k hk hn),
          fun b hb => by
            rcases hb with ⟨h1, _⟩ | h1
            · exact hd.own b h1
            · rcases hdid.own b h1 with h2 | h2
              · exact hd.own b (hTS b h2)
              · exact Or.inr (Nat.le_trans hd.size h2)⟩
      · obtain ⟨rfl, rfl, rfl⟩ : v = 0 ∧ e0 = 1 ∧ s' = s := by
          rcases hR with ⟨h, _⟩ | ⟨_, _, h⟩ | ⟨_, _, h, _⟩ | ⟨_, _, h, _⟩
          · exact absurd hl h
          · exact h
          · exact absurd h hx
          · exact absurd h hx
        exact (slot_arg2 hl hB hC.n16 hm rd hf (by omega)).mono fun e w' ⟨he, hb⟩ => ⟨he, stay w' hb⟩
    · have e1 : okB nw f C.n = false := decide_eq_false hf
      rw [e1] at hR
      obtain ⟨rfl, rfl, rfl⟩ : v = 0 ∧ e0 = 1 ∧ s' = s := by
        rcases hR with ⟨h, _⟩ | ⟨_, _, h⟩ | ⟨_, h, _⟩ | ⟨_, h, _⟩
        · exact absurd hl h
        · exact h
        · cases h
        · cases h
      exact (slot_arg1 hl hB.four.1 hC.n16 hm rd hf).mono fun e w' ⟨he, hb⟩ => ⟨he, stay w' hb⟩
  · obtain ⟨rfl, rfl, rfl⟩ : v = 0 ∧ e0 = 2 ∧ s' = s := by
      rcases hR with ⟨_, h⟩ | ⟨h, _⟩ | ⟨h, _⟩ | ⟨h, _⟩
      · exact h
      all_goals exact absurd h hl
    exact (slot_hor hl).mono fun e w' ⟨he, hb⟩ => ⟨he, stay w' hb⟩
end
end
section
set_option linter.unusedVariables false
set_option maxRecDepth 100000
set_option maxHeartbeats 400000
theorem Tryz.infoMaster : (Tryz.prog.info? 194).map (fun i => (i.zero, i.size, i.bytes)) = some (some (.agg #[.int .i64 0, .int .i64 0, .int .u64 0, .int .u64 0, .pointer none, .int .i64 0]), 6, 48) := by kernel_rfl
/-- A master's cells before it is laid. -/
def zcell (k : Nat) : Value := if k % 6 = 0 then .int .i64 0 else if k % 6 = 1 then .int .i64 0 else if k % 6 = 2 then .int .u64 0 else if k % 6 = 3 then .int .u64 0 else if k % 6 = 4 then .pointer none else .int .i64 0
/-- The first k are laid. -/
def mcellK (C : BC) (mp : Nat → Nat) (k j : Nat) : Value := if j / 6 < k then mcell C mp (fun _ => 0) j else zcell j
theorem zcell_made {n j : Nat} (h : j < n * 6) : (madeCells (Value.agg #[.int .i64 0, .int .i64 0, .int .u64 0, .int .u64 0, .pointer none, .int .i64 0]).cells (n * 6))[j]? = some (zcell j) := by
  have h6 : j % 6 < 6 := Nat.mod_lt _ (by omega)
  simp only [madeCells, Value.cells]
  rw [Array.getElem?_map, Array.getElem?_range, if_pos h]
  simp only [Option.map_some]
  unfold zcell
  have : j % 6 = 0 ∨ j % 6 = 1 ∨ j % 6 = 2 ∨ j % 6 = 3 ∨ j % 6 = 4 ∨ j % 6 = 5 := by omega
  rcases this with e | e | e | e | e | e <;> simp [e]
theorem zcell_at (i : Nat) : zcell (i * 6) = .int .i64 0 ∧ zcell (i * 6 + 1) = .int .i64 0 ∧ zcell (i * 6 + 2) = .int .u64 0 ∧ zcell (i * 6 + 3) = .int .u64 0 ∧ zcell (i * 6 + 4) = .pointer none ∧ zcell (i * 6 + 5) = .int .i64 0 := by
  have h0 : i * 6 % 6 = 0 := by omega
  have h1 : (i * 6 + 1) % 6 = 1 := by omega
  have h2 : (i * 6 + 2) % 6 = 2 := by omega
  have h3 : (i * 6 + 3) % 6 = 3 := by omega
  have h4 : (i * 6 + 4) % 6 = 4 := by omega
  have h5 : (i * 6 + 5) % 6 = 5 := by omega
  unfold zcell
  simp [h0, h1, h2, h3, h4, h5]
theorem mcellK_at (C : BC) (mp : Nat → Nat) (i : Nat) : mcellK C mp i (i * 6) = .int .i64 0 ∧ mcellK C mp i (i * 6 + 1) = .int .i64 0 ∧ mcellK C mp i (i * 6 + 2) = .int .u64 0 ∧ mcellK C mp i (i * 6 + 3) = .int .u64 0 ∧ mcellK C mp i (i * 6 + 4) = .pointer none ∧ mcellK C mp i (i * 6 + 5) = .int .i64 0 := by
  obtain ⟨z0, z1, z2, z3, z4, z5⟩ := zcell_at i
  unfold mcellK
  exact ⟨by rw [if_neg (by omega), z0], by rw [if_neg (by omega), z1], by rw [if_neg (by omega), z2], by rw [if_neg (by omega), z3], by rw [if_neg (by omega), z4], by rw [if_neg (by omega), z5]⟩
section
variable {w0 w w' : World} {S0 : Nat → Prop} {L : List Res} {C : BC} {b g : Nat} {mp : Nat → Nat}
/-- A master is laid. -/
theorem lay_master {n k : Nat} (H : St w0 S0 w L) (q : Nat) (hq : L[q]? = some (ArrR g 194 (n * 6) (mcellK C mp k))) (hk : k < n) (r : Nat) :
    St w0 S0 ((((((w.setCell ⟨g, k * 6, none⟩ (.int .i64 (C.prio k))).setCell ⟨g, k * 6 + 1, none⟩ (.int .i64 (C.burst k))).setCell ⟨g, k * 6 + 2, none⟩ (.int .u64 (C.B k))).setCell ⟨g, k * 6 + 3, none⟩ (.int .u64 (C.P k))).setCell ⟨g, k * 6 + 4, none⟩ (.pointer (some ⟨r, 0, none⟩))).setCell ⟨g, k * 6 + 5, none⟩ (.int .i64 0))
      (L.set q (ArrR g 194 (n * 6) (mcellK C (upd mp k r) (k + 1)))) := by
  have hql := (List.getElem?_eq_some_iff.1 hq).1
  have h1 := H.arr_set q hq (k := k * 6) (by omega) (.int .i64 (C.prio k))
  have h2 := h1.arr_set q (List.getElem?_set_self hql) (k := k * 6 + 1) (by omega) (.int .i64 (C.burst k))
  have h3 := h2.arr_set q (List.getElem?_set_self (by simpa using hql)) (k := k * 6 + 2) (by omega) (.int .u64 (C.B k))
  have h4 := h3.arr_set q (List.getElem?_set_self (by simpa using hql)) (k := k * 6 + 3) (by omega) (.int .u64 (C.P k))
  have h5 := h4.arr_set q (List.getElem?_set_self (by simpa using hql)) (k := k * 6 + 4) (by omega) (.pointer (some ⟨r, 0, none⟩))
  have h6 := h5.arr_set q (List.getElem?_set_self (by simpa using hql)) (k := k * 6 + 5) (by omega) (.int .i64 0)
  have h7 := h6.arr_like (V' := mcellK C (upd mp k r) (k + 1)) q (List.getElem?_set_self (by simpa using hql)) (fun j hj => by
    obtain ⟨m0, m1, m2, m3, m4, m5⟩ := mcell_at C (upd mp k r) (fun _ => 0) k
    by_cases e : j / 6 = k
    · have : j = k * 6 ∨ j = k * 6 + 1 ∨ j = k * 6 + 2 ∨ j = k * 6 + 3 ∨ j = k * 6 + 4 ∨ j = k * 6 + 5 := by omega
      unfold mcellK
      rw [if_pos (by omega)]
      rcases this with rfl | rfl | rfl | rfl | rfl | rfl
      · rw [m0]; simp
      · rw [m1]; simp
      · rw [m2]; simp
      · rw [m3]; simp
      · rw [m4]; simp [upd]
      · rw [m5]; simp
    · rw [if_neg (by omega), if_neg (by omega), if_neg (by omega), if_neg (by omega), if_neg (by omega), if_neg (by omega)]
      unfold mcellK
      by_cases h : j / 6 < k
      · rw [if_pos (by omega), if_pos h]
        unfold mcell upd
        rw [if_neg e]
      · rw [if_neg (by omega), if_neg h])
  simp only [List.set_set] at h7
  exact h7
theorem bnew_hor {A : Option Addr} {cap : Nat} {ph : Int} {V : Nat → Nat → Value} (w : World) (h1 : 1 ≤ C.n) (h16 : C.n ≤ 16) (rd : RdM w A C.n 4 V) (hV : MV C V) (h : ∀ i, i < C.n → okM (C.prio i) (C.burst i) (C.B i) (C.P i)) (hp : ¬ ph < 4611686018427387904) :
    Calls Tryz.prog 33 #[.slice A C.n cap, .int .u64 ph] w fun e w' => e = .returned (.tuple #[.pointer none, .int .i64 2]) ∧ Below w.heap.size w w' := by
  have d1 : decide ((C.n : Int) < 1) = false := decide_eq_false (by omega)
  have d2 : decide (16 < (C.n : Int)) = false := decide_eq_false (by omega)
  obtain ⟨i0, hi, hz0, hz1, hz2⟩ := info_parts Tryz.infoMaster
  have mk := fun W => run_make_rowM (P := Tryz.prog) 187 194 i0 (.agg #[.int .i64 0, .int .i64 0, .int .u64 0, .int .u64 0, .pointer none, .int .i64 0]) 6 Tryz.underlying187 hi hz0 hz1 .i64 .i64 C.n (by rw [hz2]; omega) (by omega) W
  have MK := Lib.hid mk
  clear mk hi hz0 hz1 hz2
  go_enter Tryz.func33, Tryz.ntmps33
  go_wp2_with fail
  go_loopw [23] (fun i wr => ∃ k : Nat, k ≤ C.n ∧ i = .int .i64 k ∧ Below w.heap.size w wr) (fun i _ => C.n - (intOf i).toNat)
  case atStart => exact ⟨0, by omega, rfl, Below.refl _ _⟩
  case round =>
    obtain ⟨k, hk, rfl, hB⟩ := hrel
    by_cases hlt : k < C.n
    · obtain ⟨ib, off, rfl, e0, e1, e2, e3⟩ := hV.at_ rd hB hlt
      have hB2 := hB.alloc hB.size (.cells #[.int .i64 (C.prio k), .int .i64 (C.burst k), .int .u64 (C.B k), .int .u64 (C.P k)] 78)
      have HY := Lib.hid (h k hlt)
      clear h
      go_wp2_with fail
      refine (bM_yes _ _ _ _ _ HY.out).mono ?_
      rintro e w1 ⟨rfl, hw1⟩
      have hB3 := below_then hB2 hw1
      go_wp2
      go_roundw
      case rel => exact ⟨k + 1, by omega, by go_num, hB3⟩
      case measure => simp [intOf]; omega
    · have mk := MK.out
      have hB2 := hB.alloc hB.size (.cells (madeCells (Value.agg #[.int .i64 0, .int .i64 0, .int .u64 0, .int .u64 0, .pointer none, .int .i64 0]).cells (C.n * 6)) 194)
      have hB3 := hB2.alloc hB2.size (.cells #[.slice (some ⟨wr.heap.size, 0, none⟩) C.n C.n, .int .u64 ph, .int .i64 (-1), .int .i64 0] 189)
      have H := Lib.hid h
      clear h
      go_wp2_with fail
      clear mk
      go_loopw [39] (fun i wx => i = .int .i64 0 ∧ Below w.heap.size w wx) (fun i _ => C.n - (intOf i).toNat)
      case atStart => exact ⟨rfl, hB3⟩
      case round =>
        obtain ⟨rfl, hB4⟩ := hrel
        obtain ⟨ib, off, rfl, e0, e1, e2, e3⟩ := hV.at_ rd hB4 (k := 0) (by omega)
        simp only [Nat.zero_mul, Nat.add_zero] at e0 e1 e2 e3
        have d0 : decide ((0 : Int) < (C.n : Int)) = true := decide_eq_true (by omega)
        have HO := H.out 0 (by omega)
        have HY := Lib.hid HO.2.2
        have hB5 := hB4.alloc hB4.size (.cells #[.int .i64 (C.prio 0), .int .i64 (C.burst 0), .int .u64 (C.B 0), .int .u64 (C.P 0)] 78)
        clear HO
        go_wp2_with fail
        refine (new_hor _ _ ph _ HY.out (by omega)).mono ?_
        rintro e w1 ⟨rfl, hw1⟩
        have hB6 := below_then hB5 hw1
        go_wp2
        go_ret2
        exact ⟨rfl, hB6⟩
/-- A new bus. -/
abbrev bs0 (ph : Int) : BS := ⟨fun _ => [], fun _ => 0, ph, -1, 0⟩
theorem bs0_ok {C : BC} (hC : C.OK) : (bs0 C.ph).OK C 0 :=
  ⟨fun i hi => ⟨Int.le_refl _, Int.le_refl _⟩, ⟨Int.le_refl _, by have := hC.ph; show C.ph ≤ _; omega⟩, ⟨Int.le_refl _, by show (-1 : Int) < _; omega⟩, ⟨Int.le_refl _, Int.le_refl _⟩, fun _ => rfl, fun h => by simp at h, fun i hi => by simp⟩
theorem xok0 {B P ph : Int} (h : 1 ≤ B ∧ B ≤ P ∧ P ≤ 1099511627776) (hp : 0 ≤ ph ∧ ph < 4611686018427387904) : XOK B P ph ph [] :=
  ⟨h, ⟨hp.1, Int.le_refl _, hp.2⟩, fun p hp => by simp at hp, fun K => by simp [sw]; omega⟩
theorem bnew_ok {A : Option Addr} {cap : Nat} {V : Nat → Nat → Value} (H : St w0 S0 w L) (hC : C.OK) (rd : RdM w A C.n 4 V) (hV : MV C V) :
    Calls Tryz.prog 33 #[.slice A C.n cap, .int .u64 C.ph] w fun e w' => ∃ b g mp, e = .returned (.tuple #[.pointer (some ⟨b, 0, none⟩), .int .i64 0]) ∧ St w0 S0 w' (L ++ [BusP C b g mp (bs0 C.ph)]) := by
  have h1 := hC.n1
  have h16 := hC.n16
  have hok : ∀ i, i < C.n → okM (C.prio i) (C.burst i) (C.B i) (C.P i) := fun i hi => ⟨hC.prio i hi, hC.burst i hi, hC.share i hi⟩
  have d1 : decide ((C.n : Int) < 1) = false := decide_eq_false (by omega)
  have d2 : decide (16 < (C.n : Int)) = false := decide_eq_false (by omega)
  obtain ⟨i0, hi, hz0, hz1, hz2⟩ := info_parts Tryz.infoMaster
  have mk := fun W => run_make_rowM (P := Tryz.prog) 187 194 i0 (.agg #[.int .i64 0, .int .i64 0, .int .u64 0, .int .u64 0, .pointer none, .int .i64 0]) 6 Tryz.underlying187 hi hz0 hz1 .i64 .i64 C.n (by rw [hz2]; omega) (by omega) W
  have MK := Lib.hid mk
  have HH := Lib.hid H
  clear mk hi hz0 hz1 hz2 H
  go_enter Tryz.func33, Tryz.ntmps33
  go_wp2_with fail
  go_loopw [23] (fun i wr => ∃ k : Nat, k ≤ C.n ∧ i = .int .i64 k ∧ Below w.heap.size w wr) (fun i _ => C.n - (intOf i).toNat)
  case atStart => exact ⟨0, by omega, rfl, Below.refl _ _⟩
  case round =>
    obtain ⟨k, hk, rfl, hB⟩ := hrel
    by_cases hlt : k < C.n
    · obtain ⟨ib, off, rfl, e0, e1, e2, e3⟩ := hV.at_ rd hB hlt
      have hB2 := hB.alloc hB.size (.cells #[.int .i64 (C.prio k), .int .i64 (C.burst k), .int .u64 (C.B k), .int .u64 (C.P k)] 78)
      have HY := Lib.hid (hok k hlt)
      clear hok
      go_wp2_with fail
      refine (bM_yes _ _ _ _ _ HY.out).mono ?_
      rintro e w1 ⟨rfl, hw1⟩
      have hB3 := below_then hB2 hw1
      go_wp2
      go_roundw
      case rel => exact ⟨k + 1, by omega, by go_num, hB3⟩
      case measure => simp [intOf]; omega
    · have mk := MK.out
      have s1 : St w None (wr.alloc (.cells (madeCells (Value.agg #[.int .i64 0, .int .i64 0, .int .u64 0, .int .u64 0, .pointer none, .int .i64 0]).cells (C.n * 6)) 194)) [ArrR wr.heap.size 194 (C.n * 6) (mcellK C (fun _ => 0) 0)] :=
        ((St.begin w).stay hB).box_arr 194 _ (C.n * 6) _ (by simp [madeCells]) (fun i hi => by rw [zcell_made hi]; simp [mcellK])
      have s2 := s1.front 189 #[.slice (some ⟨wr.heap.size, 0, none⟩) C.n C.n, .int .u64 C.ph, .int .i64 (-1), .int .i64 0]
      have hg : (wr.alloc (.cells (madeCells (Value.agg #[.int .i64 0, .int .i64 0, .int .u64 0, .int .u64 0, .pointer none, .int .i64 0]).cells (C.n * 6)) 194)).heap.size = wr.heap.size + 1 := by simp
      rw [hg] at s2
      have S2 := Lib.hid s2
      have HO := Lib.hid hok
      clear hok s1 s2 hg hB
      go_wp2_with fail
      have s2 := S2.out
      clear mk S2
      generalize wr.heap.size = g at *
      go_loopw [39] (fun i wx => ∃ (k : Nat) (mp : Nat → Nat), k ≤ C.n ∧ i = .int .i64 k ∧ St w None wx ([BlkR (g + 1) 189 #[.slice (some ⟨g, 0, none⟩) C.n C.n, .int .u64 C.ph, .int .i64 (-1), .int .i64 0], ArrR g 194 (C.n * 6) (mcellK C mp k)] ++ (List.range k).map (fun i => MetE (mp i) (C.B i) (C.P i) C.ph [] C.ph))) (fun i _ => C.n - (intOf i).toNat)
      case atStart => exact ⟨0, fun _ => 0, by omega, rfl, s2⟩
      case round =>
        clear s2
        obtain ⟨k, mp, hk, rfl, sr⟩ := hrel
        by_cases hlt : k < C.n
        · obtain ⟨ib, off, rfl, e0, e1, e2, e3⟩ := hV.at_ rd sr.below hlt
          have HY := Lib.hid (HO.out k hlt)
          have sb := sr.front 78 #[.int .i64 (C.prio k), .int .i64 (C.burst k), .int .u64 (C.B k), .int .u64 (C.P k)]
          have SB := Lib.hid sb
          clear sr sb
          go_wp2_with fail
          refine (met_new SB.out HY.out.2.2 hC.ph.1 hC.ph.2).mono ?_
          rintro e w1 ⟨r, rfl, s3⟩
          have q := (s3.blk 0 rfl).four
          obtain ⟨q0, q1, q2, q3⟩ := q
          obtain ⟨c0, c1, c2, c3⟩ := (s3.blk 1 rfl).four
          obtain ⟨z0, z1, z2, z3, z4, z5⟩ := mcellK_at C mp k
          have m0 := s3.arr_cell 2 rfl (k := k * 6) (by omega)
          have m1 := s3.arr_cell 2 rfl (k := k * 6 + 1) (by omega)
          have m2 := s3.arr_cell 2 rfl (k := k * 6 + 2) (by omega)
          have m3 := s3.arr_cell 2 rfl (k := k * 6 + 3) (by omega)
          have m4 := s3.arr_cell 2 rfl (k := k * 6 + 4) (by omega)
          have m5 := s3.arr_cell 2 rfl (k := k * 6 + 5) (by omega)
          rw [z0] at m0; rw [z1] at m1; rw [z2] at m2; rw [z3] at m3; rw [z4] at m4; rw [z5] at m5
          have f0 := s3.arr_frozen 2 rfl (k * 6)
          have f1 := s3.arr_frozen 2 rfl (k * 6 + 1)
          have f2 := s3.arr_frozen 2 rfl (k * 6 + 2)
          have f3 := s3.arr_frozen 2 rfl (k * 6 + 3)
          have f4 := s3.arr_frozen 2 rfl (k * 6 + 4)
          have f5 := s3.arr_frozen 2 rfl (k * 6 + 5)
          have i0 : (0 : Int) ≤ (k : Int) := by omega
          have i1 : (k : Int) < (C.n : Int) := by omega
          have S3 := Lib.hid s3
          clear s3 z0 z1 z2 z3 z4 z5 SB
          go_wp2
          go_region
          go_wp2
          go_roundw
          case rel =>
            have X0 := (lay_master S3.out 2 rfl hlt r).drew
            have X1 := X0.drop 0 (by simp)
            have X2 : St w None _ ([BlkR (g + 1) 189 #[.slice (some ⟨g, 0, none⟩) C.n C.n, .int .u64 C.ph, .int .i64 (-1), .int .i64 0], ArrR g 194 (C.n * 6) (mcellK C (upd mp k r) (k + 1))] ++ (List.range k).map (fun i => MetE (mp i) (C.B i) (C.P i) C.ph [] C.ph) ++ [MetR r (C.B k) (C.P k) C.ph C.ph []]) := X1
            have X3 := X2.fam_snoc (F' := fun i => MetE (upd mp k r i) (C.B i) (C.P i) C.ph [] C.ph) (MetE.ok _ _ _ _ _ _) (fun i hi => by simp [upd, show ¬ i = k by omega]) (fun S h => ⟨C.ph, Int.le_refl _, xok0 HY.out.2.2 hC.ph, by simpa [upd] using h⟩)
            exact ⟨k + 1, upd mp k r, by omega, by go_num, X3⟩
          case measure => simp [intOf]; omega
        · obtain rfl : k = C.n := by omega
          have Y0 := sr.arr_like (V' := mcell C mp (fun _ => 0)) 1 rfl (fun j hj => by unfold mcellK; rw [if_pos (by omega)])
          obtain ⟨S', y1, y2, y3⟩ := Y0.made
          have Y1 := HH.out.more y3 (Star.one (BusR.ok C (g + 1) g mp C.ph (bs0 C.ph)) y1) y2
          have Y2 := Lib.hid Y1
          clear Y0 y1 y2 y3 Y1 sr
          go_wp2
          go_ret2
          exact ⟨g + 1, g, mp, rfl, Y2.out⟩
end
end
section
set_option linter.unusedVariables false
set_option maxRecDepth 100000
set_option maxHeartbeats 400000
/-- A row just made is read. -/
theorem rd_new (w : World) (t : TypeId) (cs : Array Value) (n : Nat) (f : Nat → Value) (h : ∀ j, j < n → cs[j]? = some (f j)) : Rd (w.alloc (.cells cs t)) (some ⟨w.heap.size, 0, none⟩) n f := fun _ =>
  ⟨w.heap.size, 0, rfl, by simp, fun j hj => by rw [Nat.zero_add, (Blk.new w t cs).cell]; exact h j hj⟩
theorem rdm_new (w : World) (t : TypeId) (cs : Array Value) (n m : Nat) (V : Nat → Nat → Value) (h : ∀ j, j < n → ∀ i, i < m → cs[j * m + i]? = some (V j i)) : RdM (w.alloc (.cells cs t)) (some ⟨w.heap.size, 0, none⟩) n m V := fun _ =>
  ⟨w.heap.size, 0, rfl, by simp, fun j hj i hi => by rw [Nat.zero_add, (Blk.new w t cs).cell]; exact h j hj i hi⟩
theorem lis_rd {w : World} {e : TypeId} {A : Option Addr} {n cap : Nat} {xs : List Value} {f : Nat → Value} (h : Lis w e 1 (.slice A n cap) n xs) (hf : ∀ j, j < n → xs[j]? = some (f j)) : Rd w A n f := by
  intro hn
  obtain ⟨hl, h1 | ⟨g, off, rfl, hc⟩⟩ := h.reads
  · omega
  · refine ⟨g, off, rfl, ?_, fun j hj => hc j _ (hf j hj)⟩
    have := block_lt (hc 0 _ (hf 0 hn))
    simpa using this
/-- A slot, reckoned. -/
def slotF (C : BC) (s : BS) (now : Int) (ok : Bool) (want : Nat → Bool) : Int × Int × BS :=
  if now < 4611686018427387904 then
    if ok = true ∧ s.next ≤ now then
      if best C s now want = -1 then (0, 5, ⟨s.ws, stl s.st want (-1), now + 1, -1, 0⟩)
      else (best C s now want, 0, ⟨upd s.ws (best C s now want).toNat (s.ws (best C s now want).toNat ++ [(C.K (best C s now want).toNat now, 1)]), stl s.st want (best C s now want), now + 1, best C s now want, (if s.who1 now = best C s now want then s.row1 now else 0) + 1⟩)
    else (0, 1, s)
  else (0, 2, s)
theorem slotF_R (C : BC) (s : BS) (now : Int) (ok : Bool) (want : Nat → Bool) : SlotR C s now ok want (slotF C s now ok want).1 (slotF C s now ok want).2.1 (slotF C s now ok want).2.2 := by
  unfold slotF
  split
  · rename_i h1
    split
    · rename_i h2
      have hb := fst_bd (fun i => want i && mayB C s.ws (s.who1 now) (s.row1 now) now i) C.prio C.n
      split
      · rename_i h3; exact Or.inr (Or.inr (Or.inl ⟨h1, h2.1, h2.2, h3, rfl, rfl, rfl⟩))
      · rename_i h3
        obtain ⟨b, hbb⟩ : ∃ b : Nat, best C s now want = b := ⟨(best C s now want).toNat, by unfold best at *; omega⟩
        rw [hbb]
        exact Or.inr (Or.inr (Or.inr ⟨h1, h2.1, h2.2, b, by unfold best at hbb; omega, hbb, rfl, rfl, rfl⟩))
    · rename_i h2; exact Or.inr (Or.inl ⟨h1, h2, rfl, rfl, rfl⟩)
  · rename_i h1; exact Or.inl ⟨h1, rfl, rfl, rfl⟩
theorem slotF_as {C : BC} {s : BS} {now : Int} {ok : Bool} {want : Nat → Bool} {v f : Int} (h1 : (slotF C s now ok want).1 = v) (h2 : (slotF C s now ok want).2.1 = f) : SlotR C s now ok want v f (slotF C s now ok want).2.2 := by
  subst h1; subst h2; exact slotF_R C s now ok want
/-! ### Two alike masters -/
def ac : BC := ⟨2, fun _ => 3, fun _ => 1, fun _ => 5, fun _ => 10, 0⟩
theorem ac_ok : ac.OK := ⟨by decide, by decide, fun _ _ => by show (0 : Int) ≤ 3 ∧ (3 : Int) ≤ 100; omega, fun _ _ => by show (0 : Int) ≤ 1 ∧ (1 : Int) ≤ 1000; omega, fun _ _ => by show (1 : Int) ≤ 5 ∧ (5 : Int) ≤ 10 ∧ (10 : Int) ≤ 1099511627776; omega, by decide⟩
def f01 (j : Nat) : Int := if j = 0 then 0 else 1
def a1 : BS := (slotF ac (bs0 0) 0 (okB 2 f01 2) (wantB 2 f01)).2.2
def a2 : BS := (slotF ac a1 1 (okB 2 f01 2) (wantB 2 f01)).2.2
def a3 : BS := (slotF ac a2 2 (okB 2 f01 2) (wantB 2 f01)).2.2
def a4 : BS := (slotF ac a3 2 (okB 1 f01 2) (wantB 1 f01)).2.2
def a5 : BS := (slotF ac a4 3 (okB 0 f01 2) (wantB 0 f01)).2.2
theorem r1 : SlotR ac (bs0 0) 0 (okB 2 f01 ac.n) (wantB 2 f01) 0 0 a1 := slotF_as (by decide) (by decide)
theorem r2 : SlotR ac a1 1 (okB 2 f01 ac.n) (wantB 2 f01) 1 0 a2 := slotF_as (by decide) (by decide)
theorem r3 : SlotR ac a2 2 (okB 2 f01 ac.n) (wantB 2 f01) 0 0 a3 := slotF_as (by decide) (by decide)
theorem r4 : SlotR ac a3 2 (okB 1 f01 ac.n) (wantB 1 f01) 0 1 a4 := slotF_as (by decide) (by decide)
theorem r5 : SlotR ac a4 3 (okB 0 f01 ac.n) (wantB 0 f01) 0 5 a5 := slotF_as (by decide) (by decide)
theorem a5_st : a5.st 1 = 2 := by decide
def V2 (p u B P : Int) (j i : Nat) : Value := if i = 0 then .int .i64 p else if i = 1 then .int .i64 u else if i = 2 then .int .u64 B else .int .u64 P
theorem v2_mv (p u B P ph : Int) : MV ⟨2, fun _ => p, fun _ => u, fun _ => B, fun _ => P, ph⟩ (V2 p u B P) := ⟨fun j _ => rfl, fun j _ => rfl, fun j _ => rfl, fun j _ => rfl⟩
theorem v2_rd (w : World) (t : TypeId) (p u B P : Int) : RdM (w.alloc (.cells #[.int .i64 p, .int .i64 u, .int .u64 B, .int .u64 P, .int .i64 p, .int .i64 u, .int .u64 B, .int .u64 P] t)) (some ⟨w.heap.size, 0, none⟩) 2 4 (V2 p u B P) :=
  rdm_new w t _ 2 4 _ (fun j hj i hi => by
    match j, hj, i, hi with
    | 0, _, 0, _ | 0, _, 1, _ | 0, _, 2, _ | 0, _, 3, _ | 1, _, 0, _ | 1, _, 1, _ | 1, _, 2, _ | 1, _, 3, _ => rfl
    | j + 2, h, _, _ => omega
    | 0, _, i + 4, h => omega
    | 1, _, i + 4, h => omega)
theorem rd01 (w : World) (t : TypeId) : Rd (w.alloc (.cells #[.int .i64 0, .int .i64 1] t)) (some ⟨w.heap.size, 0, none⟩) 2 (fun j => .int .i64 (f01 j)) :=
  rd_new w t _ 2 _ (fun j hj => by
    match j, hj with
    | 0, _ | 1, _ => rfl
    | j + 2, h => omega)
theorem rd0 (w : World) (t : TypeId) : Rd (w.alloc (.cells #[.int .i64 0] t)) (some ⟨w.heap.size, 0, none⟩) 1 (fun j => .int .i64 (f01 j)) :=
  rd_new w t _ 1 _ (fun j hj => by
    match j, hj with
    | 0, _ => rfl
    | j + 1, h => omega)
/-- What happens, with names of its own. -/
theorem chain : ∃ (C : BC) (x1 x2 x3 x4 x5 : BS), C.OK ∧ C.n = 2 ∧ C.ph = 0 ∧ MV C (V2 3 1 5 10) ∧ SlotR C (bs0 0) 0 (okB 2 f01 C.n) (wantB 2 f01) 0 0 x1 ∧ SlotR C x1 1 (okB 2 f01 C.n) (wantB 2 f01) 1 0 x2 ∧
    SlotR C x2 2 (okB 2 f01 C.n) (wantB 2 f01) 0 0 x3 ∧ SlotR C x3 2 (okB 1 f01 C.n) (wantB 1 f01) 0 1 x4 ∧ SlotR C x4 3 (okB 0 f01 C.n) (wantB 0 f01) 0 5 x5 ∧ x5.st 1 = 2 :=
  ⟨ac, a1, a2, a3, a4, a5, ac_ok, rfl, rfl, v2_mv 3 1 5 10 0, r1, r2, r3, r4, r5, a5_st⟩
theorem bnew2 {w0 w : World} {S0 : Nat → Prop} {L : List Res} {A : Option Addr} {cap n : Nat} {ph : Int} {C : BC} {V : Nat → Nat → Value} (hC : C.OK) (hn : C.n = n) (hph : C.ph = ph) (hV : MV C V) (H : St w0 S0 w L) (rd : RdM w A n 4 V) :
    Calls Tryz.prog 33 #[.slice A n cap, .int .u64 ph] w fun e w' => ∃ b g mp, e = .returned (.tuple #[.pointer (some ⟨b, 0, none⟩), .int .i64 0]) ∧ St w0 S0 w' (L ++ [BusP C b g mp (bs0 ph)]) := by
  subst hn; subst hph; exact bnew_ok H hC rd hV
end
section
set_option linter.unusedVariables false
set_option maxRecDepth 100000
set_option maxHeartbeats 400000
theorem rbM_yes (p u B P : Int) (w : World) (h : okM p u B P) :
    Calls Tryz.prog 30 #[.agg #[.int .i64 p, .int .i64 u, .int .u64 B, .int .u64 P]] w fun e w' => e = .returned (.bool true) ∧ Below w.heap.size w w' := by
  obtain ⟨⟨h1, h2⟩, ⟨h3, h4⟩, h5⟩ := h
  have d1 : decide (0 ≤ p) = true := decide_eq_true h1
  have d2 : decide (p ≤ 100) = true := decide_eq_true h2
  have d3 : decide (0 ≤ u) = true := decide_eq_true h3
  have d4 : decide (u ≤ 1000) = true := decide_eq_true h4
  go_enter Tryz.func30, Tryz.ntmps30
  go_wp2_with fail
  refine (rsmay_yes B P _ h5).mono ?_
  rintro e w1 ⟨rfl, hw1⟩
  go_wp2_with fail
  go_ret
  exact ⟨rfl, below_box hw1⟩
theorem rbM_no (p u B P : Int) (w : World) (h : ¬ okM p u B P) :
    Calls Tryz.prog 30 #[.agg #[.int .i64 p, .int .i64 u, .int .u64 B, .int .u64 P]] w fun e w' => e = .returned (.bool false) ∧ Below w.heap.size w w' := by
  unfold okM at h
  by_cases h1 : 0 ≤ p
  · have d1 : decide (0 ≤ p) = true := decide_eq_true h1
    by_cases h2 : p ≤ 100
    · have d2 : decide (p ≤ 100) = true := decide_eq_true h2
      by_cases h3 : 0 ≤ u
      · have d3 : decide (0 ≤ u) = true := decide_eq_true h3
        by_cases h4 : u ≤ 1000
        · have d4 : decide (u ≤ 1000) = true := decide_eq_true h4
          have h5 : ¬ (1 ≤ B ∧ B ≤ P ∧ P ≤ 1099511627776) := fun h6 => h ⟨⟨h1, h2⟩, ⟨h3, h4⟩, h6⟩
          clear h
          have H5 := Lib.hid h5
          clear h5
          go_enter Tryz.func30, Tryz.ntmps30
          go_wp2_with fail
          refine (rsmay_no B P _ H5.out).mono ?_
          rintro e w1 ⟨rfl, hw1⟩
          go_wp2_with fail
          go_ret
          exact ⟨rfl, below_box hw1⟩
        · have d4 : decide (u ≤ 1000) = false := decide_eq_false h4
          clear h
          go_enter Tryz.func30, Tryz.ntmps30
          go_wp2_with fail
          go_ret
          exact ⟨rfl, (Below.refl _ _).alloc (Nat.le_refl _) _⟩
      · have d3 : decide (0 ≤ u) = false := decide_eq_false h3
        clear h
        go_enter Tryz.func30, Tryz.ntmps30
        go_wp2_with fail
        go_ret
        exact ⟨rfl, (Below.refl _ _).alloc (Nat.le_refl _) _⟩
    · have d2 : decide (p ≤ 100) = false := decide_eq_false h2
      clear h
      go_enter Tryz.func30, Tryz.ntmps30
      go_wp2_with fail
      go_ret
      exact ⟨rfl, (Below.refl _ _).alloc (Nat.le_refl _) _⟩
  · have d1 : decide (0 ≤ p) = false := decide_eq_false h1
    clear h
    go_enter Tryz.func30, Tryz.ntmps30
    go_wp2_with fail
    go_ret
    exact ⟨rfl, (Below.refl _ _).alloc (Nat.le_refl _) _⟩
section
variable {w0 w w' : World} {S0 : Nat → Prop} {L : List Res} {C : BC} {A : Option Addr} {cap : Nat} {V : Nat → Nat → Value}
theorem all_bad (w : World) (hm : C.n ≤ maxLen) (rd : RdM w A C.n 4 V) (hV : MV C V) (h : ¬ ∀ i, i < C.n → okM (C.prio i) (C.burst i) (C.B i) (C.P i)) :
    Calls Tryz.prog 8 #[.slice A C.n cap] w fun e w' => e = .returned (.bool false) ∧ Below w.heap.size w w' := by
  unfold maxLen at hm
  obtain ⟨i0, h2, h3, h4⟩ := first_bad h
  clear h
  go_enter Tryz.func8, Tryz.ntmps8
  go_wp2_with fail
  go_loopw [3] (fun i wr => ∃ k : Nat, k ≤ i0 ∧ i = .int .i64 k ∧ Below w.heap.size w wr) (fun i _ => C.n - (intOf i).toNat)
  case atStart => exact ⟨0, by omega, rfl, Below.refl _ _⟩
  case round =>
    obtain ⟨k, hk, rfl, hB⟩ := hrel
    have hlt : k < C.n := by omega
    obtain ⟨ib, off, rfl, e0, e1, e2, e3⟩ := hV.at_ rd hB hlt
    by_cases hlt2 : k < i0
    · have HY := Lib.hid (h4 k hlt2)
      clear h3 h4
      go_wp2_with fail
      refine (rbM_yes _ _ _ _ _ HY.out).mono ?_
      rintro e w1 ⟨rfl, hw1⟩
      have hB3 := below_then hB hw1
      go_wp2
      go_roundw
      case rel => exact ⟨k + 1, by omega, by go_num, hB3⟩
      case measure => simp [intOf]; omega
    · obtain rfl : k = i0 := by omega
      have HY := Lib.hid h3
      clear h3 h4
      go_wp2_with fail
      refine (rbM_no _ _ _ _ _ HY.out).mono ?_
      rintro e w1 ⟨rfl, hw1⟩
      have hB3 := below_then hB hw1
      go_wp2
      go_ret
      exact ⟨rfl, hB3⟩
theorem all_len (w : World) (hm : C.n ≤ maxLen) (rd : RdM w A C.n 4 V) (hV : MV C V) (h : ∀ i, i < C.n → okM (C.prio i) (C.burst i) (C.B i) (C.P i)) (x : Bool) (hx : x = (decide (1 ≤ C.n) && decide (C.n ≤ 16))) :
    Calls Tryz.prog 8 #[.slice A C.n cap] w fun e w' => e = .returned (.bool x) ∧ Below w.heap.size w w' := by
  unfold maxLen at hm
  have HX := Lib.hid hx
  clear hx
  go_enter Tryz.func8, Tryz.ntmps8
  go_wp2_with fail
  go_loopw [3] (fun i wr => ∃ k : Nat, k ≤ C.n ∧ i = .int .i64 k ∧ Below w.heap.size w wr) (fun i _ => C.n - (intOf i).toNat)
  case atStart => exact ⟨0, by omega, rfl, Below.refl _ _⟩
  case round =>
    obtain ⟨k, hk, rfl, hB⟩ := hrel
    by_cases hlt : k < C.n
    · obtain ⟨ib, off, rfl, e0, e1, e2, e3⟩ := hV.at_ rd hB hlt
      have HY := Lib.hid (h k hlt)
      clear h
      go_wp2_with fail
      refine (rbM_yes _ _ _ _ _ HY.out).mono ?_
      rintro e w1 ⟨rfl, hw1⟩
      have hB3 := below_then hB hw1
      go_wp2
      go_roundw
      case rel => exact ⟨k + 1, by omega, by go_num, hB3⟩
      case measure => simp [intOf]; omega
    · obtain rfl : k = C.n := by omega
      clear h
      by_cases g1 : 1 ≤ C.n
      · have d1 : decide (1 ≤ (C.n : Int)) = true := decide_eq_true (by omega)
        by_cases g2 : C.n ≤ 16
        · have d2 : decide ((C.n : Int) ≤ 16) = true := decide_eq_true (by omega)
          have hx : x = true := by rw [HX.out]; simp [g1, g2]
          have HX2 := Lib.hid hx
          clear hx
          go_wp2
          go_ret
          exact ⟨by rw [HX2.out]; rfl, hB⟩
        · have d2 : decide ((C.n : Int) ≤ 16) = false := decide_eq_false (by omega)
          have hx : x = false := by rw [HX.out]; simp [g2]
          have HX2 := Lib.hid hx
          clear hx
          go_wp2
          go_ret
          exact ⟨by rw [HX2.out]; rfl, hB⟩
      · have d1 : decide (1 ≤ (C.n : Int)) = false := decide_eq_false (by omega)
        have hx : x = false := by rw [HX.out]; simp [g1]
        have HX2 := Lib.hid hx
        clear hx
        go_wp2
        go_ret
        exact ⟨by rw [HX2.out]; rfl, hB⟩
/-- Masters that were let in. -/
theorem all_any (w : World) (hm : C.n ≤ maxLen) (rd : RdM w A C.n 4 V) (hV : MV C V) :
    ∃ x : Bool, (x = true → 1 ≤ C.n ∧ C.n ≤ 16 ∧ ∀ i, i < C.n → okM (C.prio i) (C.burst i) (C.B i) (C.P i)) ∧ (x = false → ¬ (1 ≤ C.n ∧ C.n ≤ 16) ∨ ¬ ∀ i, i < C.n → okM (C.prio i) (C.burst i) (C.B i) (C.P i)) ∧
      Calls Tryz.prog 8 #[.slice A C.n cap] w fun e w' => e = .returned (.bool x) ∧ Below w.heap.size w w' := by
  by_cases h : ∀ i, i < C.n → okM (C.prio i) (C.burst i) (C.B i) (C.P i)
  · refine ⟨_, fun hx => ?_, fun hx => ?_, all_len w hm rd hV h _ rfl⟩
    · simp at hx; exact ⟨hx.1, hx.2, h⟩
    · left; intro h2; simp [h2.1, h2.2] at hx
  · exact ⟨false, (fun hx => by cases hx), fun _ => Or.inr h, all_bad w hm rd hV h⟩
theorem bc_ok {ph : Int} (h1 : 1 ≤ C.n) (h16 : C.n ≤ 16) (h : ∀ i, i < C.n → okM (C.prio i) (C.burst i) (C.B i) (C.P i)) (hp : C.ph = ph) (h0 : 0 ≤ ph ∧ ph < 4611686018427387904) : C.OK :=
  ⟨h1, h16, fun i hi => (h i hi).1, fun i hi => (h i hi).2.1, fun i hi => (h i hi).2.2, by rw [hp]; exact h0⟩
end
/-- The masters that a slice holds. -/
def bcOf (n : Nat) (V : Nat → Nat → Value) (ph : Int) : BC := ⟨n, fun i => intOf (V i 0), fun i => intOf (V i 1), fun i => intOf (V i 2), fun i => intOf (V i 3), ph⟩
theorem mvOf {n : Nat} {V : Nat → Nat → Value} {ph : Int} (f0 : ∀ j, j < n → ∃ z, V j 0 = .int .i64 z) (f1 : ∀ j, j < n → ∃ z, V j 1 = .int .i64 z) (f2 : ∀ j, j < n → ∃ z, V j 2 = .int .u64 z) (f3 : ∀ j, j < n → ∃ z, V j 3 = .int .u64 z) : MV (bcOf n V ph) V :=
  ⟨fun j hj => by obtain ⟨z, hz⟩ := f0 j hj; simp [bcOf, hz, intOf], fun j hj => by obtain ⟨z, hz⟩ := f1 j hj; simp [bcOf, hz, intOf], fun j hj => by obtain ⟨z, hz⟩ := f2 j hj; simp [bcOf, hz, intOf], fun j hj => by obtain ⟨z, hz⟩ := f3 j hj; simp [bcOf, hz, intOf]⟩
end
end bs
end Go.Proofs.YtdjhpdacglojaaaGreat
