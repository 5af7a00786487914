/- Layer 13: the time of a line goes on; a raise is counted, and raised. -/
import Derived.Test.YtaoioejgealciaaIrqC
namespace Go.Proofs.Ytaoioejgealciaa
open Go.RowKit
set_option linter.unusedVariables false
set_option maxRecDepth 100000
set_option maxHeartbeats 2000000
theorem lc8 (l : Ln) (g b : Nat) (x : Int) : ∀ q, q < 13 → q ≠ 8 → lnCell { l with held := x } g b q = lnCell l g b q := fun q hq hn => match q, hq, hn with
  | 0, _, _ | 1, _, _ | 2, _, _ | 3, _, _ | 4, _, _ | 5, _, _ | 6, _, _ | 7, _, _ | 9, _, _ | 10, _, _ | 11, _, _ | 12, _, _ => rfl
  | 8, _, h => absurd rfl h
  | q + 13, h, _ => by omega
theorem lc9 (l : Ln) (g b : Nat) (x : Int) : ∀ q, q < 13 → q ≠ 9 → lnCell { l with pends := x } g b q = lnCell l g b q := fun q hq hn => match q, hq, hn with
  | 0, _, _ | 1, _, _ | 2, _, _ | 3, _, _ | 4, _, _ | 5, _, _ | 6, _, _ | 7, _, _ | 8, _, _ | 10, _, _ | 11, _, _ | 12, _, _ => rfl
  | 9, _, h => absurd rfl h
  | q + 13, h, _ => by omega
theorem lc10 (l : Ln) (g b : Nat) (x : Bool) : ∀ q, q < 13 → q ≠ 10 → lnCell { l with masked := x } g b q = lnCell l g b q := fun q hq hn => match q, hq, hn with
  | 0, _, _ | 1, _, _ | 2, _, _ | 3, _, _ | 4, _, _ | 5, _, _ | 6, _, _ | 7, _, _ | 8, _, _ | 9, _, _ | 11, _, _ | 12, _, _ => rfl
  | 10, _, h => absurd rfl h
  | q + 13, h, _ => by omega
theorem lc11 (l : Ln) (g b : Nat) (x : Int) : ∀ q, q < 13 → q ≠ 11 → lnCell { l with win := x } g b q = lnCell l g b q := fun q hq hn => match q, hq, hn with
  | 0, _, _ | 1, _, _ | 2, _, _ | 3, _, _ | 4, _, _ | 5, _, _ | 6, _, _ | 7, _, _ | 8, _, _ | 9, _, _ | 10, _, _ | 12, _, _ => rfl
  | 11, _, h => absurd rfl h
  | q + 13, h, _ => by omega
theorem lc12 (l : Ln) (g b : Nat) (x : Int) : ∀ q, q < 13 → q ≠ 12 → lnCell { l with raises := x } g b q = lnCell l g b q := fun q hq hn => match q, hq, hn with
  | 0, _, _ | 1, _, _ | 2, _, _ | 3, _, _ | 4, _, _ | 5, _, _ | 6, _, _ | 7, _, _ | 8, _, _ | 9, _, _ | 10, _, _ | 11, _, _ => rfl
  | 12, _, h => absurd rfl h
  | q + 13, h, _ => by omega
theorem lcg6 (l : Ln) (g g' b : Nat) (N : Int) (ws : List Int) : ∀ q, q < 13 → q ≠ 6 → lnCell { l with N := N, ws := ws } g' b q = lnCell l g b q := fun q hq hn => match q, hq, hn with
  | 0, _, _ | 1, _, _ | 2, _, _ | 3, _, _ | 4, _, _ | 5, _, _ | 7, _, _ | 8, _, _ | 9, _, _ | 10, _, _ | 11, _, _ | 12, _, _ => rfl
  | 6, _, h => absurd rfl h
  | q + 13, h, _ => by omega
/-- Nothing of it is due. -/
def Ln.cur (l : Ln) (t : Int) : Prop := l.ws = [] ∨ t < l.ws.getD 0 0 + l.H
theorem fired_eq {l : Ln} {t t0 R : Int} (h : l.ok t0 R) (ht : t0 ≤ t) (hl : t < 4611686018427387904) :
    ∃ n ws', GoR l.H l.N l.ws t n 0 t ws' ∧ l.fired t = { l with N := t, ws := ws', held := l.held + n } ∧ 0 ≤ n ∧ l.held + n ≤ R ∧ (ws' = [] ∨ t < ws'.getD 0 0 + l.H) := by
  have hs := h.sum
  have hp := h.p0
  have hn := h.gn
  have hh := h.h0
  by_cases hd : 1 ≤ l.ws.length ∧ l.ws.getD 0 0 + l.H ≤ t
  · exact ⟨_, [], Or.inr (Or.inr (Or.inl ⟨hl, by omega, hd.1, hd.2, rfl, rfl, rfl, rfl⟩)), by unfold Ln.fired; rw [if_pos hd], by omega, by omega, Or.inl rfl⟩
  · have hc : l.ws = [] ∨ t < l.ws.getD 0 0 + l.H := by
      by_cases h0 : l.ws.length = 0
      · exact Or.inl (List.eq_nil_of_length_eq_zero h0)
      · exact Or.inr (by omega)
    exact ⟨0, l.ws, Or.inr (Or.inr (Or.inr ⟨hl, by omega, hc, rfl, rfl, rfl, rfl⟩)), by unfold Ln.fired; rw [if_neg hd, Int.add_zero], by omega, by omega, hc⟩
theorem deliver_same (l : Ln) (t : Int) : (l.deliver t).C = l.C ∧ (l.deliver t).H = l.H ∧ (l.deliver t).N = l.N ∧ (l.deliver t).ws = l.ws ∧ (l.deliver t).masked = l.masked := by
  unfold Ln.deliver
  split
  · exact ⟨rfl, rfl, rfl, rfl, rfl⟩
  · split <;> exact ⟨rfl, rfl, rfl, rfl, rfl⟩
theorem goOn_cur {l : Ln} {t t0 R : Int} (h : l.ok t0 R) (ht : t0 ≤ t) (hl : t < 4611686018427387904) : (l.goOn t).cur t ∧ (l.goOn t).N = t := by
  obtain ⟨n, ws', _, he, _, _, hc⟩ := fired_eq h ht hl
  unfold Ln.goOn Ln.cur
  obtain ⟨_, e2, e3, e4, _⟩ := deliver_same (l.fired t) t
  rw [e2, e3, e4, he]
  exact ⟨hc, rfl⟩
section
variable {w0 w w' : World} {S0 S : Nat → Prop} {L X : List Res} {c n m i : Nat} {now : Int} {ls : Nat → Ln} {gb bb : Nat → Nat}
theorem goOn_o (H : St w0 S0 w (IL c n m now ls gb bb X)) (hm : m ≤ 16) (hi : i < m) {t t0 R : Int} (hk : (ls i).ok t0 R) (h0 : 0 ≤ t) (ht : t0 ≤ t) (hl : t < 4611686018427387904) :
    Calls Try.prog 35 #[.pointer (some ⟨c, i * 13, none⟩), .int .u64 t] w fun e w' => e = .returned (.tuple #[]) ∧ St w0 S0 w' (IL c n m now (updL ls i ((ls i).goOn t)) gb bb X) := by
  obtain ⟨l, hli⟩ : ∃ l, ls i = l := ⟨_, rfl⟩
  have HLI := Lib.hid hli
  rw [hli] at hk ⊢
  obtain ⟨nf, ws', hG, he, hn0, hnR, _⟩ := fired_eq hk ht hl
  have hf := Ln.fired_ok hk h0 ht hl
  rw [he] at hf
  have HE := Lib.hid (show l.goOn t = ({ l with N := t, ws := ws', held := l.held + nf } : Ln).deliver t by unfold Ln.goOn; rw [he])
  have hb := hk.big
  have hh := hk.h0
  have c6 : w.cell? ⟨c, i * 13 + 6, none⟩ = some (.pointer (some ⟨gb i, 0, none⟩)) := il_at H hm hi (by decide)
  have GG := Lib.hid (gat_go H (1 + i) (il_g hi) (by rw [hli]; exact hk.g) (by rw [hli]; exact hG))
  have HF := Lib.hid hf
  obtain ⟨hd, hhd⟩ : ∃ hd, l.held = hd := ⟨_, rfl⟩
  have HHD := Lib.hid hhd
  rw [hhd] at hnR hh
  clear H hk hli hG he hf hhd
  go_enter Try.func35, Try.ntmps35
  go_wp2_with fail
  refine GG.out.mono ?_
  rintro e w1 ⟨rfl, s1⟩
  have u1 := il_gat (l' := { l with N := t, ws := ws' }) hm hi (by rw [HLI.out] at s1; exact s1) (fun q hq => by rw [HLI.out]; rfl) (by rw [HLI.out]; rfl)
  have a8 : w1.cell? ⟨c, i * 13 + 8, none⟩ = some (.int .i64 hd) := by have h := il_at u1 hm hi (f := 8) (by decide); rw [updL_same] at h; rw [← HHD.out]; exact h
  have f8 := il_frozen u1 (i * 13 + 8)
  have u2 := il_put (l' := { l with N := t, ws := ws', held := l.held + nf }) hm hi (f := 8) (by decide) u1 (.int .i64 (hd + nf)) (by rw [← HHD.out]; rfl) (by rw [updL_same]; exact lc8 { l with N := t, ws := ws' } _ _ _) (by rw [updL_same]; exact ⟨rfl, rfl, rfl, rfl⟩) (by rw [updL_same]; rfl)
  rw [updL_twice] at u2
  have D := deliver_o u2 hm hi (t := t) (t0 := t) (R := R) (by rw [updL_same]; exact HF.out) (Int.le_refl _) hl
  rw [updL_same, updL_twice] at D
  have DD := Lib.hid D
  clear s1 u1 u2 D GG c6
  go_wp2_with fail
  refine DD.out.mono ?_
  rintro e w2 ⟨rfl, s2⟩
  have S2 := Lib.hid s2
  clear s2 DD
  go_wp2_with fail
  go_end0
  exact ⟨rfl, by rw [HE.out]; exact S2.out⟩
theorem countIn_o (H : St w0 S0 w (IL c n m now ls gb bb X)) (hm : m ≤ 16) (hi : i < m) {t t0 R : Int} (hk : (ls i).ok t0 R) (h0 : 0 ≤ t) (hl : t < 4611686018427387904) :
    Calls Try.prog 36 #[.pointer (some ⟨c, i * 13, none⟩), .int .u64 t] w fun e w' => e = .returned (.int .i64 ((ls i).count t).raises) ∧ St w0 S0 w' (IL c n m now (updL ls i ((ls i).count t)) gb bb X) := by
  obtain ⟨l, hli⟩ : ∃ l, ls i = l := ⟨_, rfl⟩
  have HLI := Lib.hid hli
  rw [hli] at hk ⊢
  have hsp := hk.may.2.2.2
  have hr0 := hk.r0
  have hrs := hk.rs
  have hbig := hk.big
  have c5 : w.cell? ⟨c, i * 13 + 5, none⟩ = some (.int .u64 l.Sp) := by have h := il_at H hm hi (f := 5) (by decide); rw [hli] at h; exact h
  have c11 : w.cell? ⟨c, i * 13 + 11, none⟩ = some (.int .u64 l.win) := by have h := il_at H hm hi (f := 11) (by decide); rw [hli] at h; exact h
  have c12 : w.cell? ⟨c, i * 13 + 12, none⟩ = some (.int .i64 l.raises) := by have h := il_at H hm hi (f := 12) (by decide); rw [hli] at h; exact h
  have f11 := il_frozen H (i * 13 + 11)
  have f12 := il_frozen H (i * 13 + 12)
  obtain ⟨sp, hspe⟩ : ∃ sp, l.Sp = sp := ⟨_, rfl⟩
  obtain ⟨wi, hwi⟩ : ∃ wi, l.win = wi := ⟨_, rfl⟩
  obtain ⟨rs, hrse⟩ : ∃ rs, l.raises = rs := ⟨_, rfl⟩
  rw [hspe] at hsp c5
  rw [hwi] at c11
  rw [hrse] at c12 hr0 hrs
  have WK := Lib.hid (window_ok t 0 sp w (Int.le_refl _) h0 hl ⟨hsp.1, by omega⟩)
  rw [Int.sub_zero] at WK
  have HC := Lib.hid (show l.count t = { l with win := t / sp, raises := (if t / sp = wi then rs else 0) + 1 } by unfold Ln.count; rw [hspe, hwi, hrse])
  have hq : 0 ≤ t / sp := Int.ediv_nonneg h0 (by omega)
  have HK := Lib.hid hq
  obtain ⟨k, hke⟩ : ∃ k, t / sp = k := ⟨_, rfl⟩
  rw [hke] at WK HC HK
  clear hke hq hk
  by_cases hw : k = wi
  · subst hw
    have u1 := il_put (l' := { l with win := k, raises := rs + 1 }) hm hi (f := 12) (by decide) H (.int .i64 (rs + 1)) rfl (by rw [hli]; intro q hq hn; have e := lc12 { l with win := k } (gb i) (bb i) (rs + 1) q hq hn; rw [← hwi] at e ⊢; exact e) (by rw [hli]; exact ⟨rfl, rfl, rfl, rfl⟩) (by rw [hli]; rfl)
    have a12 : (w.setCell ⟨c, i * 13 + 12, none⟩ (.int .i64 (rs + 1))).cell? ⟨c, i * 13 + 12, none⟩ = some (.int .i64 (rs + 1)) := by have h := il_at u1 hm hi (f := 12) (by decide); rw [updL_same] at h; exact h
    have U := Lib.hid u1
    have HC2 := Lib.hid (show l.count t = { l with win := k, raises := rs + 1 } by rw [HC.out, if_pos rfl])
    clear u1 H HC
    go_enter Try.func36, Try.ntmps36
    go_wp2_with (first | (go_at_call 43; refine WK.out.mono ?_; rintro e w1 ⟨rfl, rfl⟩) | go_in)
    go_ret
    exact ⟨by rw [HC2.out]; rfl, by rw [HC2.out]; exact U.out⟩
  · have z : (k != wi) = true := by simp [hw]
    have u1 := il_put (l' := { l with win := k }) hm hi (f := 11) (by decide) H (.int .u64 k) rfl (by rw [hli]; exact lc11 l _ _ _) (by rw [hli]; exact ⟨rfl, rfl, rfl, rfl⟩) (by rw [hli]; rfl)
    have b12 : (w.setCell ⟨c, i * 13 + 11, none⟩ (.int .u64 k)).cell? ⟨c, i * 13 + 12, none⟩ = some (.int .i64 rs) := by have h := il_at u1 hm hi (f := 12) (by decide); rw [updL_same] at h; rw [← hrse]; exact h
    have g12 := il_frozen u1 (i * 13 + 12)
    have u2 := il_put (l' := { l with win := k, raises := 0 }) hm hi (f := 12) (by decide) u1 (.int .i64 0) rfl (by rw [updL_same]; exact lc12 { l with win := k } _ _ _) (by rw [updL_same]; exact ⟨rfl, rfl, rfl, rfl⟩) (by rw [updL_same]; rfl)
    rw [updL_twice] at u2
    have d12 : ((w.setCell ⟨c, i * 13 + 11, none⟩ (.int .u64 k)).setCell ⟨c, i * 13 + 12, none⟩ (.int .i64 0)).cell? ⟨c, i * 13 + 12, none⟩ = some (.int .i64 0) := by have h := il_at u2 hm hi (f := 12) (by decide); rw [updL_same] at h; exact h
    have g12' := il_frozen u2 (i * 13 + 12)
    have u3 := il_put (l' := { l with win := k, raises := 0 + 1 }) hm hi (f := 12) (by decide) u2 (.int .i64 (0 + 1)) rfl (by rw [updL_same]; exact lc12 { l with win := k, raises := 0 } _ _ _) (by rw [updL_same]; exact ⟨rfl, rfl, rfl, rfl⟩) (by rw [updL_same]; rfl)
    rw [updL_twice] at u3
    have e12 := il_at u3 hm hi (f := 12) (by decide)
    rw [updL_same] at e12
    have U := Lib.hid u3
    have HC2 := Lib.hid (show l.count t = { l with win := k, raises := 0 + 1 } by rw [HC.out, if_neg hw])
    clear u1 u2 u3 H HC hw
    go_enter Try.func36, Try.ntmps36
    go_wp2_with (first | (go_at_call 43; refine WK.out.mono ?_; rintro e w1 ⟨rfl, rfl⟩) | go_in)
    go_ret
    exact ⟨by rw [HC2.out]; rfl, by rw [HC2.out]; exact U.out⟩
end
end Go.Proofs.Ytaoioejgealciaa
