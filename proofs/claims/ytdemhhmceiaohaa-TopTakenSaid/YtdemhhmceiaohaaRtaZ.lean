/- Layer 16: each task's answer time, as the document says. -/
import Derived.Test.YtdemhhmceiaohaaRtaY
namespace Go.Proofs.Ytdemhhmceiaohaa
open Go.RowKit
set_option linter.unusedVariables false
set_option maxRecDepth 100000
set_option maxHeartbeats 2000000
def oNa (o : Option Nat) : Int := ((o.getD 0 : Nat) : Int)
section
variable {w0 w : World} {A B : Option Addr} {n m cap capB : Nat} {T : Nat → Wk} {S : Nat → Ld} {L : List Res}
theorem rtime_c (rd : Ts w A n T) (rdS : Ls w B m S) (ht : LTyped m S) (hT : TOK n T) (hS : LOK m S) (i : Nat) (hi : i < n) (o : Option Nat) (ho : o = timeO n T m S (i : Int)) :
    Calls Try.prog 36 #[.slice A n cap, .slice B m capB, .int .i64 (i : Int)] w fun e w' => e = .returned (.tuple #[.int .u64 (oNa o), .bool o.isSome]) ∧ Below w.heap.size w w' := by
  have n32 := hT.1
  have m16 := hS.1
  have MT := Lib.hid (rtmay_c (cap := cap) rd (by unfold maxLen; omega) true (decide_eq_true hT).symm)
  have MS := Lib.hid (fun W (hW : Below w.heap.size w W) => rsmay_c (cap := capB) (rdS.below hW) ht (by unfold maxLen; omega) true (decide_eq_true hS).symm)
  have RD := Lib.hid rd
  obtain ⟨o0, o1, o2, o3, o4⟩ := hT.2 i hi
  unfold timeO at ho
  rw [if_pos ⟨⟨by omega, by omega⟩, hT, hS⟩, Int.toNat_natCast] at ho
  obtain ⟨l, hl⟩ : ∃ l, whoL T S n m i = l := ⟨_, rfl⟩
  have WC := Lib.hid (fun W (hW : Below w.heap.size w W) (x : Nat) (hx : x ≤ 1073741824) => wants_c (cap := cap) (capB := capB) (rd.below hW) (rdS.below hW) hT hS (i : Int) (by omega) (by omega) (x : Int) (by omega) (by omega) _ rfl)
  obtain ⟨c, hc⟩ : ∃ c : Nat, (T i).cost.toNat = c := ⟨_, rfl⟩
  obtain ⟨d, hd⟩ : ∃ d : Nat, (T i).dead.toNat = d := ⟨_, rfl⟩
  rw [hl, hc, hd] at ho
  simp only [Int.toNat_natCast] at WC
  rw [hl, hc] at WC
  have CE := Lib.hid (fun W (hW : Below w.heap.size w W) => rd.at_ hW hi)
  have E1 := Lib.hid (show (T i).cost = (c : Int) by omega)
  have E2 := Lib.hid (show (T i).dead = (d : Int) by omega)
  have HO := Lib.hid ho
  have d0 : decide ((i : Int) < 0) = false := decide_eq_false (by omega)
  have d1 : decide ((n : Int) ≤ (i : Int)) = false := decide_eq_false (by omega)
  have d1' : decide (n ≤ i) = false := decide_eq_false (by omega)
  have v0 : (0 : Int) ≤ (i : Int) := by omega
  have v1 : (i : Int) < (n : Int) := by omega
  have db : d ≤ 1073741824 := by omega
  clear rd rdS ht hT hS ho hl hc hd o0 o1 o2 o3 o4
  go_enter Try.func36, Try.ntmps36
  go_wp2_with fail
  refine MT.out.mono ?_
  rintro e w1 ⟨rfl, hb1⟩
  have B1 := Lib.hid hb1
  clear hb1
  go_wp2_with fail
  refine (MS.out w1 B1.out).mono ?_
  rintro e w2 ⟨rfl, hb2⟩
  have B2 := Lib.hid (below_then B1.out hb2)
  clear hb2
  obtain ⟨ib, off, hA, f0, f1, f2, f3⟩ := CE.out w2 B2.out
  rw [E1.out] at f1
  rw [E2.out] at f3
  subst hA
  go_wp2_with fail
  go_loopw [8, 9] (fun r x9 wr => ∃ x : Nat, r = .int .u64 x ∧ x ≤ Fx c l x ∧ (∀ t, Fx c l t = t → x ≤ t) ∧ Below w.heap.size w wr) (fun r _ _ => d + 1 - (intOf r).toNat)
  case atStart => exact ⟨c, rfl, Nat.le_add_right _ _, (fun t ht => by unfold Fx at ht; omega), B2.out⟩
  case round =>
    obtain ⟨x, rfl, h1, h2, hbl⟩ := hrel
    have H1 := Lib.hid h1
    have H2 := Lib.hid h2
    have BL := Lib.hid hbl
    obtain ⟨ib', off', hA', g0, g1, g2, g3⟩ := CE.out wr hbl
    rw [E1.out] at g1
    rw [E2.out] at g3
    injection hA' with hA'
    injection hA' with ha1 ha2
    subst ha1 ha2
    clear h1 h2 hbl
    by_cases hlt : x ≤ d
    · have z0 : decide ((x : Int) ≤ (d : Int)) = true := decide_eq_true (by omega)
      have z0' : decide (x ≤ d) = true := decide_eq_true hlt
      have WX := Lib.hid (WC.out wr BL.out x (by omega))
      obtain ⟨y, hy⟩ : ∃ y, Fx c l x = y := ⟨_, rfl⟩
      rw [hy] at WX
      have HY := Lib.hid hy
      clear hy
      go_wp2_with fail
      refine WX.out.mono ?_
      rintro e w3 ⟨rfl, hb3⟩
      have B3 := Lib.hid (below_then BL.out hb3)
      clear hb3 WX
      by_cases e : y = x
      · subst e
        have hoo : o = some y := by rw [HO.out]; exact lfp_of hlt HY.out H2.out
        subst hoo
        go_wp2_with fail
        go_ret2
        exact ⟨rfl, B3.out⟩
      · have z1 : ((y : Int) == (x : Int)) = false := beq_eq_false_iff_ne.2 (by omega)
        have z1' : (y == x) = false := beq_eq_false_iff_ne.2 e
        have hxy : x < y := by have := H1.out; rw [HY.out] at this; omega
        go_wp2_with fail
        go_roundw
        case rel => exact ⟨y, rfl, (by have := Fx_mono c l (Nat.le_of_lt hxy); rw [HY.out] at this; exact this), (fun t ht => by have := Fx_mono c l (H2.out t ht); rw [HY.out] at this; omega), B3.out⟩
        case measure => simp [intOf]; omega
    · have z0 : decide ((x : Int) ≤ (d : Int)) = false := decide_eq_false (by omega)
      have z0' : decide (x ≤ d) = false := decide_eq_false hlt
      have hoo : o = none := by rw [HO.out]; exact lfp_none.2 fun t ht e => by have := H2.out t e; omega
      subst hoo
      go_wp2_with fail
      go_ret2
      exact ⟨rfl, BL.out⟩
theorem rall_c (rd : Ts w A n T) (rdS : Ls w B m S) (ht : LTyped m S) (hn : n ≤ maxLen) (hm : m ≤ maxLen) (b : Bool) (hb : b = decide (TOK n T ∧ LOK m S ∧ allO n T m S)) :
    Calls Try.prog 15 #[.slice A n cap, .slice B m capB] w fun e w' => e = .returned (.bool b) ∧ Below w.heap.size w w' := by
  have MT := Lib.hid (rtmay_c (cap := cap) rd hn (decide (TOK n T)) rfl)
  have MS := Lib.hid (fun W (hW : Below w.heap.size w W) => rsmay_c (cap := capB) (rdS.below hW) ht hm (decide (LOK m S)) rfl)
  have TM := Lib.hid (fun W (hW : Below w.heap.size w W) hT hS i hi o ho => rtime_c (cap := cap) (capB := capB) (rd.below hW) (rdS.below hW) ht hT hS i hi o ho)
  have HB := Lib.hid hb
  clear rd rdS ht hb
  unfold maxLen at hn hm
  go_enter Try.func15, Try.ntmps15
  go_wp2_with fail
  refine MT.out.mono ?_
  rintro e w1 ⟨rfl, hb1⟩
  have B1 := Lib.hid hb1
  clear hb1
  by_cases hT : TOK n T
  case neg =>
    have e1 : decide (TOK n T) = false := decide_eq_false hT
    obtain rfl : b = false := by rw [HB.out]; exact decide_eq_false fun h => hT h.1
    rw [e1]
    clear hT
    go_wp2_with fail
    go_ret
    exact ⟨rfl, B1.out⟩
  have e1 : decide (TOK n T) = true := decide_eq_true hT
  have HT := Lib.hid hT
  rw [e1]
  clear e1 hT
  go_wp2_with fail
  refine (MS.out w1 B1.out).mono ?_
  rintro e w2 ⟨rfl, hb2⟩
  have B2 := Lib.hid (below_then B1.out hb2)
  clear hb2
  by_cases hS : LOK m S
  case neg =>
    have e1 : decide (LOK m S) = false := decide_eq_false hS
    obtain rfl : b = false := by rw [HB.out]; exact decide_eq_false fun h => hS h.2.1
    rw [e1]
    clear hS
    go_wp2_with fail
    go_ret
    exact ⟨rfl, B2.out⟩
  have e1 : decide (LOK m S) = true := decide_eq_true hS
  have HS := Lib.hid hS
  rw [e1]
  clear e1 hS
  go_wp2_with fail
  go_loopw [5, 6, 7] (fun i x6 x7 wr => ∃ k : Nat, k ≤ n ∧ i = .int .i64 k ∧ (∀ j, j < k → (timeO n T m S (j : Int)).isSome = true) ∧ Below w.heap.size w wr) (fun i _ _ _ => n - (intOf i).toNat)
  case atStart => exact ⟨0, by omega, rfl, (fun j hj => absurd hj (by omega)), B2.out⟩
  case round =>
    obtain ⟨k, hk, rfl, hok, hbl⟩ := hrel
    have OK := Lib.hid hok
    have BL := Lib.hid hbl
    clear hok hbl
    by_cases hlt : k < n
    · have z0 : decide ((k : Int) < (n : Int)) = true := decide_eq_true (by omega)
      have z0' : decide (k < n) = true := decide_eq_true hlt
      have TC := Lib.hid (TM.out wr BL.out HT.out HS.out k hlt _ rfl)
      have HOO := Lib.hid (Eq.refl (timeO n T m S (k : Int)))
      have hq : ∃ q, timeO n T m S (k : Int) = q := ⟨_, rfl⟩
      obtain ⟨q, hq⟩ := hq
      rw [hq] at TC
      have HQ := Lib.hid hq
      clear hq
      obtain ⟨bq, hbq⟩ : ∃ bq, q.isSome = bq := ⟨_, rfl⟩
      rw [hbq] at TC
      have HBQ := Lib.hid hbq
      clear hbq
      go_wp2_with fail
      refine TC.out.mono ?_
      rintro e w3 ⟨rfl, hb3⟩
      have B3 := Lib.hid (below_then BL.out hb3)
      clear hb3 TC
      cases bq with
      | false =>
        obtain rfl : b = false := by
          rw [HB.out]; refine decide_eq_false fun h => ?_
          have := h.2.2 k hlt
          rw [HQ.out, HBQ.out] at this; cases this
        go_wp2_with fail
        go_ret
        exact ⟨rfl, B3.out⟩
      | true =>
        go_wp2_with fail
        go_roundw
        case rel => exact ⟨k + 1, by omega, by go_num, (fun j hj => by
          rcases Nat.lt_or_ge j k with h | h
          · exact OK.out j h
          · obtain rfl : j = k := by omega
            rw [HQ.out, HBQ.out]), B3.out⟩
        case measure => simp [intOf]; omega
    · obtain rfl : k = n := by omega
      have z0 : decide ((k : Int) < (k : Int)) = false := decide_eq_false (by omega)
      obtain rfl : b = true := by rw [HB.out]; exact decide_eq_true ⟨HT.out, HS.out, fun j hj => OK.out j hj⟩
      go_wp2_with fail
      go_ret
      exact ⟨rfl, BL.out⟩
/-- All have an answer time: so each has one. -/
theorem allO_time (h : allO n T m S) (hT : TOK n T) (hS : LOK m S) {i : Nat} (hi : i < n) : ∃ R : Nat, 1 ≤ R ∧ (R : Int) ≤ (T i).dead ∧ Fx (T i).cost.toNat (whoL T S n m i) R = R := by
  have hs := h i hi
  unfold timeO at hs
  rw [if_pos ⟨⟨by omega, by omega⟩, hT, hS⟩, Int.toNat_natCast] at hs
  obtain ⟨R, hR⟩ := Option.isSome_iff_exists.1 hs
  obtain ⟨h1, h2, _⟩ := lfp_some.1 hR
  obtain ⟨_, o1, o2, _⟩ := hT.2 i hi
  refine ⟨R, ?_, by omega, h2⟩
  unfold Fx at h2; omega
end
end Go.Proofs.Ytdemhhmceiaohaa
