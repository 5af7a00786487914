/- Layer 23: the most urgent member. -/
import Derived.Test.YtpfodchdpafofaaLockK
namespace Go.Proofs.Ytpfodchdpafofaa
open Go.RowKit
set_option linter.unusedVariables false
set_option maxRecDepth 100000
set_option maxHeartbeats 4000000
/-- The most urgent one of the first i. -/
def BestP (s : KS) (i : Nat) (z : Int) : Prop :=
  (z = -1 ∧ ∀ j, j < i → s.mem j = none) ∨ ∃ (b : Nat) (m : Mb), z = (b : Int) ∧ b < i ∧ s.mem b = some m ∧ ∀ j m', j < i → s.mem j = some m' → s.cur m ≤ s.cur m' ∧ (s.cur m = s.cur m' → m'.held ≠ [] → m.held ≠ [])
theorem best_none {s : KS} {i : Nat} {z : Int} (h : BestP s i z) (hi : s.mem i = none) : BestP s (i + 1) z := by
  rcases h with ⟨rfl, h⟩ | ⟨b, m, rfl, h1, h2, h3⟩
  · refine Or.inl ⟨rfl, fun j hj => ?_⟩
    rcases Nat.lt_or_ge j i with h4 | h4
    · exact h j h4
    · obtain rfl : j = i := by omega
      exact hi
  · refine Or.inr ⟨b, m, rfl, by omega, h2, fun j m' hj hm => ?_⟩
    rcases Nat.lt_or_ge j i with h4 | h4
    · exact h3 j m' h4 hm
    · obtain rfl : j = i := by omega
      rw [hi] at hm; cases hm
theorem best_first {s : KS} {i : Nat} {m : Mb} (h : ∀ j, j < i → s.mem j = none) (hi : s.mem i = some m) : BestP s (i + 1) (i : Int) := by
  refine Or.inr ⟨i, m, rfl, by omega, hi, fun j m' hj hm => ?_⟩
  rcases Nat.lt_or_ge j i with h4 | h4
  · rw [h j h4] at hm; cases hm
  · obtain rfl : j = i := by omega
    rw [hi] at hm; injection hm with hm; subst hm
    exact ⟨Int.le_refl _, fun _ h => h⟩
/-- It is the better one. -/
def bet (s : KS) (m mb : Mb) : Prop := s.cur m < s.cur mb ∨ (s.cur m = s.cur mb ∧ m.held ≠ [] ∧ mb.held = [])
theorem best_new {s : KS} {i b : Nat} {m mb : Mb} (hb : s.mem b = some mb) (h : ∀ j m', j < i → s.mem j = some m' → s.cur mb ≤ s.cur m' ∧ (s.cur mb = s.cur m' → m'.held ≠ [] → mb.held ≠ [])) (hi : s.mem i = some m) (hbt : bet s m mb) : BestP s (i + 1) (i : Int) := by
  refine Or.inr ⟨i, m, rfl, by omega, hi, fun j m' hj hm => ?_⟩
  rcases Nat.lt_or_ge j i with h4 | h4
  · obtain ⟨h5, h6⟩ := h j m' h4 hm
    rcases hbt with h7 | ⟨h7, h8, h9⟩
    · exact ⟨by omega, fun e => by omega⟩
    · exact ⟨by omega, fun _ _ => h8⟩
  · obtain rfl : j = i := by omega
    rw [hi] at hm; injection hm with hm; subst hm
    exact ⟨Int.le_refl _, fun _ h => h⟩
theorem best_old {s : KS} {i b : Nat} {m mb : Mb} (hbi : b < i) (hb : s.mem b = some mb) (h : ∀ j m', j < i → s.mem j = some m' → s.cur mb ≤ s.cur m' ∧ (s.cur mb = s.cur m' → m'.held ≠ [] → mb.held ≠ [])) (hi : s.mem i = some m) (hbt : ¬ bet s m mb) : BestP s (i + 1) (b : Int) := by
  refine Or.inr ⟨b, mb, rfl, by omega, hb, fun j m' hj hm => ?_⟩
  rcases Nat.lt_or_ge j i with h4 | h4
  · exact h j m' h4 hm
  · obtain rfl : j = i := by omega
    rw [hi] at hm; injection hm with hm; subst hm
    unfold bet at hbt
    refine ⟨by omega, fun e hh hn => hbt (Or.inr ⟨e.symm, hh, hn⟩)⟩
section
variable {w0 w w' : World} {S0 S : Nat → Prop} {B L : List Res} {k c b N : Nat} {A : Option Addr} {ptr : Nat → Nat} {s s' : KS}
def FirstPost (s : KS) (w : World) (e : Ending) (w' : World) : Prop := ∃ z : Int, e = .returned (.int .i64 z) ∧ ((z = -1 ∧ ∀ i, s.mem i = none) ∨ ∃ b : Nat, z = (b : Int) ∧ First s b) ∧ Below w.heap.size w w'
theorem first_c (H : St w0 S0 w L) (q : Nat) (hq : L[q]? = some (KR k N s)) (hs : s.ok) {kb np : Nat} (hnp : np ≤ 16) (j : Nat) (hj : L[j]? = some (ArrR kb 4 np (fun i => .bool (s.mem i).isSome))) (hout : ∀ i, np ≤ i → s.mem i = none) :
    Calls Try.prog 12 #[.pointer (some ⟨k, 0, none⟩), .slice (some ⟨kb, 0, none⟩) np np] w (FirstPost s w) := by
  have HH := Lib.hid H
  have HS := Lib.hid hs
  have HO := Lib.hid hout
  have HQ := Lib.hid hq
  have HJ := Lib.hid hj
  clear H hs hout hq hj
  go_enter Try.func12, Try.ntmps12
  go_wp2_with fail
  go_loopw [5, 6] (fun z t wr => ∃ (i : Nat) (x : Int), i ≤ np ∧ t = .int .i64 (i : Int) ∧ z = .int .i64 x ∧ BestP s i x ∧ Below w.heap.size w wr) (fun _ t _ => np - (intOf t).toNat)
  case atStart => exact ⟨0, -1, by omega, rfl, rfl, Or.inl ⟨rfl, fun j h => by omega⟩, Below.refl _ _⟩
  case round =>
  obtain ⟨i, x, hi, rfl, rfl, hbp, hbl⟩ := hrel
  have HB := Lib.hid hbp
  have sr := HH.out.stay hbl
  have SR := Lib.hid sr
  have HBL := Lib.hid hbl
  clear hbp hbl
  by_cases hin : i < np
  case neg =>
    have t1 : decide ((i : Int) < (np : Int)) = false := decide_eq_false (by omega)
    have t1' : decide (i < np) = false := decide_eq_false hin
    obtain rfl : i = np := by omega
    have HF := Lib.hid (show (x = -1 ∧ ∀ i, s.mem i = none) ∨ ∃ b : Nat, x = (b : Int) ∧ First s b from by
      rcases HB.out with ⟨rfl, h⟩ | ⟨b, m, rfl, h1, h2, h3⟩
      · refine Or.inl ⟨rfl, fun j => ?_⟩
        rcases Nat.lt_or_ge j i with h4 | h4
        · exact h j h4
        · exact HO.out j h4
      · refine Or.inr ⟨b, rfl, m, h2, fun j m' hm => ?_⟩
        rcases Nat.lt_or_ge j i with h4 | h4
        · exact h3 j m' h4 hm
        · rw [HO.out j h4] at hm; cases hm)
    clear sr hin
    go_wp2_with fail
    go_ret
    exact ⟨_, rfl, HF.out, HBL.out⟩
  have t1 : decide ((i : Int) < (np : Int)) = true := decide_eq_true (by omega)
  have t1' : decide (i < np) = true := decide_eq_true hin
  have i0 : (0 : Int) ≤ (i : Int) := by omega
  have i1 : (i : Int) < (np : Int) := by omega
  have a0 := sr.arr_cell j HJ.out hin
  clear sr
  cases hmi : s.mem i with
  | none =>
    rw [hmi] at a0
    have a0 : wr.cell? ⟨kb, i, none⟩ = some (.bool false) := a0
    have HB' := Lib.hid (best_none HB.out hmi)
    clear hmi
    go_wp2_with fail
    go_roundw
    case rel => exact ⟨i + 1, x, by omega, by go_num, rfl, HB'.out, HBL.out⟩
    case measure => simp [intOf]; omega
  | some m =>
    rw [hmi] at a0
    have a0 : wr.cell? ⟨kb, i, none⟩ = some (.bool true) := a0
    have HMI := Lib.hid hmi
    clear hmi
    rcases HB.out with ⟨rfl, hno⟩ | ⟨b, mb, rfl, hbi, hmb, hall⟩
    · have HB' := Lib.hid (best_first hno HMI.out)
      clear hno
      go_wp2_with fail
      go_roundw
      case rel => exact ⟨i + 1, (i : Int), by omega, by go_num, rfl, HB'.out, HBL.out⟩
      case measure => simp [intOf]; omega
    have HMB := Lib.hid hmb
    have HALL := Lib.hid hall
    have t2 : decide ((b : Int) < 0) = false := decide_eq_false (by omega)
    obtain ⟨p, hp⟩ : ∃ p, s.cur m = p := ⟨_, rfl⟩
    obtain ⟨r, hr⟩ : ∃ r, s.cur mb = r := ⟨_, rfl⟩
    have HPR := Lib.hid (And.intro hp hr)
    have P1 := Lib.hid (show Calls Try.prog 13 #[.pointer (some ⟨k, 0, none⟩), .int .i64 (i : Int)] wr (fun e w' => e = .returned (.tuple #[.int .i64 p, .int .i64 0]) ∧ wr = w') from (by rw [← hp]; exact Prio_o SR.out q HQ.out HS.out HMI.out))
    have P2 := Lib.hid (show Calls Try.prog 13 #[.pointer (some ⟨k, 0, none⟩), .int .i64 (b : Int)] wr (fun e w' => e = .returned (.tuple #[.int .i64 r, .int .i64 0]) ∧ wr = w') from (by rw [← hr]; exact Prio_o SR.out q HQ.out HS.out HMB.out))
    have D1 := Lib.hid (Held_o SR.out q HQ.out HS.out HMI.out)
    have D2 := Lib.hid (fun (W : World) (K : Below wr.heap.size wr W) => Held_o (SR.out.stay K) q HQ.out HS.out HMB.out)
    obtain ⟨n1, hn1⟩ : ∃ n1, m.held.length = n1 := ⟨_, rfl⟩
    obtain ⟨n2, hn2⟩ : ∃ n2, mb.held.length = n2 := ⟨_, rfl⟩
    rw [hn1] at D1
    rw [hn2] at D2
    have HN1 := Lib.hid (show m.held ≠ [] ↔ 0 < n1 by rw [← hn1, List.length_pos_iff])
    have HN2 := Lib.hid (show mb.held = [] ↔ n2 = 0 by rw [← hn2, List.length_eq_zero_iff])
    clear hp hr hmb hall hn1 hn2
    go_wp2_with fail
    refine P1.out.mono ?_
    rintro e w4 ⟨rfl, rfl⟩
    go_wp2_with fail
    refine P2.out.mono ?_
    rintro e w4 ⟨rfl, rfl⟩
    clear P1 P2 a0
    rcases Int.lt_trichotomy p r with hlt | heq | hgt
    · have z1 : decide (p < r) = true := decide_eq_true hlt
      have HB' := Lib.hid (best_new HMB.out HALL.out HMI.out (Or.inl (by rw [HPR.out.1, HPR.out.2]; exact hlt)))
      clear hlt
      go_wp2_with fail
      go_roundw
      case rel => exact ⟨i + 1, (i : Int), by omega, by go_num, rfl, HB'.out, HBL.out⟩
      case measure => simp [intOf]; omega
    · subst heq
      have z1 : decide (p < p) = false := decide_eq_false (by omega)
      have z2 : (p == p) = true := beq_self_eq_true _
      by_cases h1 : 0 < n1
      · have z3 : decide (0 < (n1 : Int)) = true := decide_eq_true (by omega)
        have z3' : decide (0 < n1) = true := decide_eq_true h1
        by_cases h2 : n2 = 0
        · subst h2
          have HB' := Lib.hid (best_new HMB.out HALL.out HMI.out (Or.inr ⟨HPR.out.1.trans HPR.out.2.symm, HN1.out.2 h1, HN2.out.2 rfl⟩))
          clear h1
          go_wp2_with fail
          refine D1.out.mono ?_
          rintro e w5 ⟨C, d, rfl, s5⟩
          have E2 := Lib.hid (D2.out w5 s5.below)
          have B5 := Lib.hid s5.below
          clear s5 D1 D2
          go_wp2_with fail
          refine E2.out.mono ?_
          rintro e w6 ⟨C2, d2, rfl, s6⟩
          have B6 := Lib.hid (below_then HBL.out (below_then B5.out s6.below))
          clear s6 E2
          go_wp2_with fail
          go_roundw
          case rel => exact ⟨i + 1, (i : Int), by omega, by go_num, rfl, HB'.out, B6.out⟩
          case measure => simp [intOf]; omega
        · have z4 : ((n2 : Int) == 0) = false := beq_eq_false_iff_ne.2 (by omega)
          have z4' : (n2 == 0) = false := beq_eq_false_iff_ne.2 h2
          have HB' := Lib.hid (best_old hbi HMB.out HALL.out HMI.out (by
            rintro (h | ⟨_, _, h⟩)
            · rw [HPR.out.1, HPR.out.2] at h; omega
            · exact h2 (HN2.out.1 h)))
          clear h1 h2
          go_wp2_with fail
          refine D1.out.mono ?_
          rintro e w5 ⟨C, d, rfl, s5⟩
          have E2 := Lib.hid (D2.out w5 s5.below)
          have B5 := Lib.hid s5.below
          clear s5 D1 D2
          go_wp2_with fail
          refine E2.out.mono ?_
          rintro e w6 ⟨C2, d2, rfl, s6⟩
          have B6 := Lib.hid (below_then HBL.out (below_then B5.out s6.below))
          clear s6 E2
          go_wp2_with fail
          go_roundw
          case rel => exact ⟨i + 1, (b : Int), by omega, by go_num, rfl, HB'.out, B6.out⟩
          case measure => simp [intOf]; omega
      · have z3 : decide (0 < (n1 : Int)) = false := decide_eq_false (by omega)
        have z3' : decide (0 < n1) = false := decide_eq_false h1
        have HB' := Lib.hid (best_old hbi HMB.out HALL.out HMI.out (by
          rintro (h | ⟨_, h, _⟩)
          · rw [HPR.out.1, HPR.out.2] at h; omega
          · exact h1 (HN1.out.1 h)))
        clear h1
        go_wp2_with fail
        refine D1.out.mono ?_
        rintro e w5 ⟨C, d, rfl, s5⟩
        have B5 := Lib.hid (below_then HBL.out s5.below)
        clear s5 D1 D2
        go_wp2_with fail
        go_roundw
        case rel => exact ⟨i + 1, (b : Int), by omega, by go_num, rfl, HB'.out, B5.out⟩
        case measure => simp [intOf]; omega
    · have z1 : decide (p < r) = false := decide_eq_false (by omega)
      have z2 : (p == r) = false := beq_eq_false_iff_ne.2 (by omega)
      have HB' := Lib.hid (best_old hbi HMB.out HALL.out HMI.out (by
        rintro (h | ⟨h, _, _⟩) <;> (rw [HPR.out.1, HPR.out.2] at h; omega)))
      clear hgt
      go_wp2_with fail
      go_roundw
      case rel => exact ⟨i + 1, (b : Int), by omega, by go_num, rfl, HB'.out, HBL.out⟩
      case measure => simp [intOf]; omega
end
end Go.Proofs.Ytpfodchdpafofaa
