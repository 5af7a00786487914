/- Layer 23: the library's reversal; who goes; who is known; a new keeper. -/
import Derived.Test.YtpfodchdpafofaaLockF
namespace Go.Proofs.Ytpfodchdpafofaa
open Go.RowKit
set_option linter.unusedVariables false
set_option maxRecDepth 100000
set_option maxHeartbeats 2000000
/-- Turned round as far as t from both ends. -/
def Rv (l l' : List Nat) (n t : Nat) : Prop := l'.length = n ∧ ∀ u, u < n → l'[u]? = if u < t ∨ n ≤ u + t then l[n - 1 - u]? else l[u]?
theorem Rv.start (l : List Nat) : Rv l l l.length 0 := ⟨rfl, fun u hu => by rw [if_neg (by omega)]⟩
theorem Rv.step {l l' : List Nat} {n t j x y : Nat} (h : Rv l l' n t) (hl : l.length = n) (hj : t + j + 1 = n) (htj : t < j) (hx : l'[t]? = some x) (hy : l'[j]? = some y) : Rv l ((l'.set t y).set j x) n (t + 1) := by
  refine ⟨by simp [h.1], fun u hu => ?_⟩
  have h1 := h.2 t (by omega)
  have h2 := h.2 j (by omega)
  rw [if_neg (by omega), hx] at h1
  rw [if_neg (by omega), hy] at h2
  by_cases e1 : u = j
  · subst e1
    rw [List.getElem?_set_self (by simp [h.1]; omega), if_pos (by omega), show n - 1 - u = t by omega, ← h1]
  · rw [List.getElem?_set_ne (by omega)]
    by_cases e2 : u = t
    · subst e2
      rw [List.getElem?_set_self (by rw [h.1]; omega), if_pos (by omega), show n - 1 - u = j by omega, ← h2]
    · rw [List.getElem?_set_ne (by omega), h.2 u hu]
      by_cases c : u < t ∨ n ≤ u + t
      · rw [if_pos c, if_pos (by omega)]
      · rw [if_neg c, if_neg (by omega)]
theorem Rv.done {l l' : List Nat} {n t j : Nat} (h : Rv l l' n t) (hl : l.length = n) (hj : t + j + 1 = n) (htj : j ≤ t) : l' = l.reverse := by
  apply List.ext_getElem?
  intro u
  by_cases hu : u < n
  · rw [h.2 u hu, List.getElem?_reverse (by omega), hl]
    split
    · rfl
    · rw [show n - 1 - u = u by omega]
  · rw [List.getElem?_eq_none (by rw [h.1]; omega), List.getElem?_eq_none (by simp; omega)]
theorem ivs_set (l : List Nat) (k x : Nat) : (ivs l).set k (.int .i64 (x : Int)) = ivs (l.set k x) := by simp [ivs, List.map_set]
section
variable {w0 w w' : World} {S0 S : Nat → Prop} {B L : List Res} {k c b N : Nat} {A : Option Addr} {ptr : Nat → Nat} {s s' : KS}
theorem Reverse_o {A : Option Addr} {n c q : Nat} {l : List Nat} (H : St w0 S0 w L) (hq : L[q]? = some (LisR 3 1 (.slice A n c) n (ivs l))) (hn : n ≤ 1000) :
    Calls Try.prog 24 #[.slice A n c] w fun e w' => e = .returned (.tuple #[]) ∧ St w0 S0 w' (L.set q (LisR 3 1 (.slice A n c) n (ivs l.reverse))) := by
  have hl : l.length = n := by have := (H.lis q hq).1; rw [ivs_len] at this; omega
  have hL : ∀ X : Res, (L.set q X)[q]? = some X := fun X => List.getElem?_set_self (List.getElem?_eq_some_iff.1 hq).1
  have hS : L.set q (LisR 3 1 (.slice A n c) n (ivs l)) = L := set_same hq
  have HH := Lib.hid H
  have HL := Lib.hid hl
  have HLL := Lib.hid hL
  have HSS := Lib.hid hS
  by_cases h0 : n = 0
  · subst h0
    obtain rfl : l = [] := List.eq_nil_of_length_eq_zero hl
    clear H hl hL hS hq
    go_enter Try.func24, Try.ntmps24
    go_wp2_with fail
    go_loopw [2, 3] (fun i j wr => i = .int .i64 0 ∧ j = .int .i64 (-1) ∧ wr = w) (fun _ _ _ => 0)
    case atStart => exact ⟨rfl, rfl, rfl⟩
    case round =>
    obtain ⟨rfl, rfl, rfl⟩ := hrel
    go_wp2_with fail
    go_end0
    exact ⟨rfl, by rw [List.reverse_nil, HSS.out]; exact HH.out⟩
  obtain ⟨g, off, rfl, -⟩ := (H.lis q hq).at_ (by omega)
  have hm1 : (n : Int) - 1 = ((n - 1 : Nat) : Int) := by omega
  have HR := Lib.hid (show Rv l l n 0 by rw [← HL.out]; exact Rv.start l)
  have HM1 := Lib.hid hm1
  clear H hl hL hS hq hm1
  go_enter Try.func24, Try.ntmps24
  go_wp2_with fail
  go_loopw [2, 3] (fun i j wr => ∃ (t u : Nat) (l' : List Nat), i = .int .i64 (t : Int) ∧ j = .int .i64 (u : Int) ∧ t + u + 1 = n ∧ Rv l l' n t ∧ St w0 S0 wr (L.set q (LisR 3 1 (.slice (some ⟨g, off, none⟩) n c) n (ivs l')))) (fun _ j _ => (intOf j).toNat)
  case atStart => exact ⟨0, n - 1, l, rfl, by rw [← HM1.out], by omega, HR.out, by rw [HSS.out]; exact HH.out⟩
  case round =>
  obtain ⟨t, u, l', rfl, rfl, htu, hrv, sr⟩ := hrel
  have HRV := Lib.hid hrv
  by_cases htl : t < u
  · obtain ⟨x, hx⟩ : ∃ x, l'[t]? = some x := ⟨_, List.getElem?_eq_getElem (by rw [hrv.1]; omega)⟩
    obtain ⟨y, hy⟩ : ∃ y, l'[u]? = some y := ⟨_, List.getElem?_eq_getElem (by rw [hrv.1]; omega)⟩
    obtain ⟨g', off', hg', hc⟩ := (sr.lis q (HLL.out _)).at_ (by omega)
    obtain ⟨rfl, rfl⟩ : g = g' ∧ off = off' := by simpa using hg'
    have a0 := hc t _ (ivs_get hx)
    have a1 := hc u _ (ivs_get hy)
    have f0 := (sr.lis q (HLL.out _)).frozen (off + t)
    have f1 := (sr.lis q (HLL.out _)).frozen (off + u)
    have HR' := Lib.hid (hrv.step HL.out htu htl hx hy)
    have s2 := (sr.drew.lis_set q (HLL.out _) (k := t) (by omega) (.int .i64 (y : Int)))
    rw [List.set_set, ivs_set] at s2
    have b1 : (wr.setCell ⟨g, off + t, none⟩ (.int .i64 (y : Int))).cell? ⟨g, off + u, none⟩ = some (.int .i64 (y : Int)) := by
      have h := (s2.lis q (HLL.out _)).at_ (by omega)
      obtain ⟨g', off', hg', hc⟩ := h
      obtain ⟨rfl, rfl⟩ : g = g' ∧ off = off' := by simpa using hg'
      exact hc u _ (ivs_get (by rw [List.getElem?_set_ne (by omega)]; exact hy))
    have h1 : (wr.setCell ⟨g, off + t, none⟩ (.int .i64 (y : Int))).frozen? ⟨g, off + u, none⟩ = false := (s2.lis q (HLL.out _)).frozen (off + u)
    have s3 := (s2.lis_set q (HLL.out _) (k := u) (by omega) (.int .i64 (x : Int)))
    rw [List.set_set, ivs_set] at s3
    have S3 := Lib.hid s3
    have d1 : decide ((t : Int) < (u : Int)) = true := decide_eq_true (by omega)
    have d1' : decide (t < u) = true := decide_eq_true htl
    have t0 : (0 : Int) ≤ (t : Int) := by omega
    have t1 : (t : Int) < (n : Int) := by omega
    have u0 : (0 : Int) ≤ (u : Int) := by omega
    have u1 : (u : Int) < (n : Int) := by omega
    have e1 : ¬ off + u = off + t := by omega
    have e2 : ¬ off + t = off + u := by omega
    clear sr s2 s3 hc hx hy hrv hg'
    go_wp2_with fail
    go_region
    all_goals
      go_wp2_with fail
      go_roundw
      case rel => exact ⟨t + 1, u - 1, _, by go_num, by rw [show ((u - 1 : Nat) : Int) = (u : Int) - 1 by omega], by omega, HR'.out, S3.out⟩
      case measure => simp [intOf]; omega
  · have d1 : decide ((t : Int) < (u : Int)) = false := decide_eq_false (by omega)
    have d1' : decide (t < u) = false := decide_eq_false htl
    have HD := Lib.hid (hrv.done HL.out htu (by omega))
    have SR := Lib.hid sr
    clear hrv sr
    go_wp2_with fail
    go_end0
    exact ⟨rfl, by rw [← HD.out]; exact SR.out⟩
end
end Go.Proofs.Ytpfodchdpafofaa
