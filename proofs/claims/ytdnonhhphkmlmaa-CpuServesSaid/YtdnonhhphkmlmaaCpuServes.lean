/-
  For all loads, every row of bytes and every byte CpuServes answers true, and changes nothing: servers run no more in any span than their budgets let, whatever work they have; while nobody has work, and no job is there, nobody runs. No condition.
-/
import Derived.Test.YtdnonhhphkmlmaaRows
import Derived.Test.YtdnonhhphkmlmaaFr
import Derived.Test.YtdnonhhphkmlmaaCpuU
import Derived.Test.YtdnonhhphkmlmaaCpuX
import Derived.Test.YtdnonhhphkmlmaaOpen
import Derived.BigRegion
import Derived.LoopTactic
namespace Go.Proofs.Ytdnonhhphkmlmaa.cpuServes
open Go.ChangeShapes Go.WideShapes Go.ChangeAt Go.RowKit
set_option linter.unusedVariables false
theorem own : ownKnob Try.prog.godebug = none := by kernel_rfl
theorem laid : laidOutB Try.prog = true := by kernel_rfl
set_option maxRecDepth 100000
set_option maxHeartbeats 4000000
/-- How often each server ran since bg. -/
def hadV (h : Nat → Int) (bg t : Nat) (k : Nat) : Value := .int .u64 (cntL (hit h (100 + (k : Int))) bg (t - bg) : Nat)
theorem hadV_step {m : Nat} {W : Nat → Wk} {S : Nat → Ld} {t : Nat} {T : Nat → CTk} {V : Nat → Sv} {s : QS} {h : Nat → Int} {r b : Nat → Nat → Bool} (G : Gh 0 m W S t T V s h r b) (who : Int) (bg k : Nat) (hk : k < m) :
    hadV (putH h t who) bg (t + 1) k = .int .u64 ((cntL (hit h (100 + (k : Int))) bg (t - bg) : Nat) + (if who = 100 + (k : Int) ∧ bg ≤ t then 1 else 0)) := by
  unfold hadV
  rw [hit_put, cntL_since _ ((G.sv k hk).stop t (Nat.le_refl _))]
  congr 1
  by_cases e : who = 100 + (k : Int)
  · rw [decide_eq_true e]
    by_cases e2 : bg ≤ t
    · rw [if_pos e2, if_pos ⟨e, e2⟩]; simp
    · rw [if_neg e2, if_neg fun h => e2 h.2]; simp
  · rw [decide_eq_false e]
    have e3 : ¬ (who = 100 + (k : Int) ∧ bg ≤ t) := fun h => e h.1
    rw [if_neg e3]; simp
theorem walk (E Z : Option Addr) (m ce q cz : Nat) (S : Nat → Ld) (f : Nat → Int) (x : Int) (w : World) (hm : m ≤ maxLen) (hq : q ≤ maxLen) (rdS : Ls w E m S) (ht : LTyped m S) (rdZ : Rd w Z q (fun i => .int .u8 (f i)))
    (hf : ∀ i, 0 ≤ f i ∧ f i ≤ 255) (hx : 0 ≤ x ∧ x ≤ 255) :
    Calls Try.prog 4 #[.slice E m ce, .slice Z q cz, .int .u8 x] w fun r' w' => r' = .returned (.bool true) ∧ Below w.heap.size w w' := by
  have HMS := Lib.hid (fun X (hX : Below w.heap.size w X) => rsmay_c (cap := ce) (rdS.below hX) ht hm (decide (LOK m S)) rfl)
  have HNW := Lib.hid (fun X (hX : Below w.heap.size w X) hS => cNew_c (A := none) (n := 0) (W := awW) (ca := 0) (ce := ce) (ts_none X awW) (rdS.below hX) (tok_none awW) hS ht)
  have RS := Lib.hid rdS
  have RZ := Lib.hid rdZ
  have HF := Lib.hid hf
  clear rdS ht rdZ hf
  unfold maxLen at hm hq
  go_enter Try.func4, Try.ntmps4
  go_wp2_with fail
  refine (awake_any _).mono ?_
  rintro e1 w1 ⟨rfl, hb1⟩
  have B1 := Lib.hid hb1
  clear hb1
  go_wp2_with fail
  refine (HMS.out _ B1.out).mono ?_
  rintro e2 w2 ⟨rfl, hb2⟩
  have B2 := Lib.hid (below_then B1.out hb2)
  clear hb2 HMS
  by_cases hS : LOK m S
  case neg =>
    rw [decide_eq_false hS]
    clear hS
    go_wp2_with fail
    go_ret
    exact ⟨rfl, B2.out⟩
  rw [decide_eq_true hS]
  have HS := Lib.hid hS
  have m16 := hS.1
  clear hS
  by_cases hq0 : q = 0
  · have z1 : ((q : Int) == 0) = true := beq_iff_eq.2 (by omega)
    have z1' : (q == 0) = true := beq_iff_eq.2 hq0
    go_wp2_with fail
    go_ret
    exact ⟨rfl, B2.out⟩
  have z1 : ((q : Int) == 0) = false := beq_eq_false_iff_ne.2 (by omega)
  have z1' : (q == 0) = false := beq_eq_false_iff_ne.2 hq0
  have NC := Lib.hid (HNW.out w2 B2.out HS.out)
  clear HNW
  go_wp2_with fail
  refine NC.out.mono ?_
  rintro e5 w5 ⟨P, V5, rfl, en, em, hV, s5⟩
  obtain ⟨pc, pq, pA, pk, pn, pE, pe, pm⟩ := P
  dsimp only at en em
  subst en em
  have G0 := Lib.hid (Gh.anew (tok_none awW) HS.out hV)
  have s6 := ((St.begin w).stay B2.out).cpu s5
  obtain ⟨iU, hiU, hzU, hsU, hbU⟩ := info3c (P := Try.prog) (t := 31) (z := .int .u64 0) (s := 1) (b := 8) (by kernel_rfl)
  have mU := fun W => run_make_rowN (P := Try.prog) 45 31 iU (.int .u64 0) Try.underlying45 hiU hzU rfl hsU .i64 .i64 pm (by rw [hbU]; omega) (by omega) W
  obtain ⟨xb, hxb⟩ : ∃ xb : Nat, Int.tmod x 150 = (xb : Int) := ⟨(Int.tmod x 150).toNat, by have : 0 ≤ Int.tmod x 150 := by { rw [Int.tmod_eq_emod_of_nonneg hx.1]; omega }; omega⟩
  have hxb2 : xb < 150 := by have : Int.tmod x 150 < 150 := by { rw [Int.tmod_eq_emod_of_nonneg hx.1]; omega }; omega
  have hwx : IntKind.i64.wrap x = x := IntWalk.i64_in _ ⟨by omega, by omega⟩
  have hxb3 : x % 150 = (xb : Int) := by rw [← hxb, Int.tmod_eq_emod_of_nonneg hx.1]
  have s7 := (s6.made_row 31 pm (.int .u64 0))
  obtain ⟨hb, hhb⟩ : ∃ hb, w5.heap.size = hb := ⟨_, rfl⟩
  rw [hhb, List.append_nil] at s7
  have S7 := Lib.hid ((show St w None _ ([ArrR hb 31 pm (fun _ => .int .u64 0)] ++ CpuL ⟨pc, pq, pA, pk, 0, pE, pe, pm⟩ (fun j => tk0 (awW j)) V5 0 QS.new) from s7.comm).arr_like (V' := hadV (fun _ => -1) xb 0) 0 rfl (fun j hj => by
    unfold hadV; rw [cntL_gone (Nat.zero_le _)]; rfl))
  clear s6 s7 s5 NC hV B1
  go_wp2_with fail
  have S8 := Lib.hid (show St w None _ (CpuL ⟨pc, pq, pA, pk, 0, pE, pe, pm⟩ (fun j => tk0 (awW j)) V5 0 QS.new ++ [ArrR hb 31 pm (hadV (fun _ => -1) xb 0)]) from
    (show St w None _ ([ArrR hb 31 pm (hadV (fun _ => -1) xb 0)] ++ CpuL ⟨pc, pq, pA, pk, 0, pE, pe, pm⟩ (fun j => tk0 (awW j)) V5 0 QS.new) from S7.out).comm)
  clear S7 mU
  go_loopw [11, 12, 13, 14, 15] (fun x11 x12 x13 x14 x15 wr => ∃ (t : Nat) (T : Nat → CTk) (V : Nat → Sv) (s : QS) (h : Nat → Int) (r b : Nat → Nat → Bool), x11 = .int .i64 (t : Int) ∧ t ≤ 150 ∧ Gh 0 pm awW S t T V s h r b ∧ St w None wr (CpuL ⟨pc, pq, pA, pk, 0, pE, pe, pm⟩ T V (t : Int) s ++ [ArrR hb 31 pm (hadV h xb t)])) (fun x _ _ _ _ _ => 150 - (intOf x).toNat)
  case atStart => exact ⟨0, _, _, _, _, _, _, rfl, by omega, G0.out, S8.out⟩
  case round =>
  clear G0 S8
  obtain ⟨t, T, V, s, h, r, b, rfl, ht, hG, hK⟩ := hrel
  have HG := Lib.hid hG
  have K0 := Lib.hid hK
  clear hG hK
  by_cases hlt : t < 150
  · have y0 : decide ((t : Int) < 150) = true := decide_eq_true (by omega)
    have y0' : decide (t < 150) = true := decide_eq_true hlt
    go_wp2_with fail
    go_loopw [12, 13] (fun x12 x13 wi => ∃ (k : Nat) (V : Nat → Sv) (any : Bool), x12 = .bool any ∧ x13 = .int .i64 (k : Int) ∧ k ≤ pm ∧ (any = false → ∀ j, j < k → (V j).work = 0) ∧ Gh 0 pm awW S t T V s h r b ∧ St w None wi (CpuL ⟨pc, pq, pA, pk, 0, pE, pe, pm⟩ T V (t : Int) s ++ [ArrR hb 31 pm (hadV h xb t)])) (fun _ x _ => pm - (intOf x).toNat)
    case atStart => exact ⟨0, V, false, rfl, rfl, by omega, (fun _ j hj => absurd hj (by omega)), HG.out, K0.out⟩
    case round =>
    clear HG K0
    obtain ⟨k, V, any, rfl, rfl, hk, ha, hG, hK⟩ := hrel
    have HA := Lib.hid ha
    have HG := Lib.hid hG
    have K0 := Lib.hid hK
    clear ha hG hK
    by_cases hkm : k < pm
    · have y1 : decide ((k : Int) < (pm : Int)) = true := decide_eq_true (by omega)
      have y1' : decide (k < pm) = true := decide_eq_true hkm
      obtain ⟨sb, off, rfl, hsb, hcell⟩ := RZ.out (by omega)
      obtain ⟨u, hu⟩ : ∃ u : Nat, (t : Int) + (k : Int) = (u : Int) := ⟨t + k, by omega⟩
      have hkn : u % q < q := Nat.mod_lt _ (by omega)
      have hnp : 0 < q := by omega
      have hy := (K0.out.below.cell (p := ⟨sb, off + u % q, none⟩) hsb).trans (hcell _ hkn)
      dsimp only at hy
      obtain ⟨f0, f1⟩ := HF.out (u % q)
      generalize f (u % q) = fv at *
      have m0 : 0 ≤ fv % 3 := Int.emod_nonneg _ (by omega)
      have m1 : Int.tmod fv 3 = fv % 3 := Int.tmod_eq_emod_of_nonneg f0
      have mw : IntKind.u64.wrap fv = fv := IntWalk.u64_in _ ⟨by omega, by omega⟩
      have m2 : IntKind.i64.wrap (u : Int) = (u : Int) := IntWalk.i64_in _ ⟨by omega, by omega⟩
      have WK := Lib.hid (gWake (p := ⟨pc, pq, pA, pk, 0, pE, pe, pm⟩) (id := (k : Int)) (dem := fv % 3) HG.out K0.out m0)
      obtain ⟨wa, hwa⟩ : ∃ wa, wakeA pm (k : Int) = wa := ⟨_, rfl⟩
      have EV := Lib.hid (show ∀ j, j ≠ k → (wakeV pm V (k : Int) (fv % 3) j).work = (V j).work from fun j hj => by
        unfold wakeV
        rw [if_pos (by omega), Int.toNat_natCast, updK_ne V _ hj])
      clear hcell K0 HG
      dsimp only at WK
      rw [hwa] at WK
      generalize wakeV pm V (k : Int) (fv % 3) = V2 at *
      clear hwa
      go_wp2_with fail
      refine WK.out.mono ?_
      rintro e6 w6 ⟨hG2, rfl, hK2⟩
      have HG := Lib.hid hG2
      have K0 := Lib.hid hK2
      have WC := Lib.hid (cWork_c (id := (k : Int)) hK2)
      have ew : workA pm V2 (k : Int) = (V2 k).work := if_pos (by omega)
      dsimp only at WC
      rw [ew] at WC
      have wn := (hG2.so k hkm).w0
      clear WK hG2 hK2 ew
      cases any with
      | true =>
        clear WC
        go_wp2_with fail
        go_roundw
        case rel => exact ⟨k + 1, V2, true, rfl, by go_num, by omega, (fun h => by cases h), HG.out, K0.out⟩
        case measure => simp [intOf]; omega
      | false =>
        obtain ⟨wk, hwk⟩ : ∃ wk, (V2 k).work = wk := ⟨_, rfl⟩
        rw [hwk] at WC wn
        have HWK := Lib.hid hwk
        clear hwk
        go_wp2_with fail
        refine WC.out.mono ?_
        rintro e7 w7 ⟨rfl, rfl⟩
        clear WC
        by_cases h0 : 0 < wk
        · have y2 : decide (0 < wk) = true := decide_eq_true h0
          go_wp2_with fail
          go_roundw
          case rel => exact ⟨k + 1, V2, true, rfl, by go_num, by omega, (fun h => by cases h), HG.out, K0.out⟩
          case measure => simp [intOf]; omega
        · have y2 : decide (0 < wk) = false := decide_eq_false h0
          go_wp2_with fail
          go_roundw
          case rel => exact ⟨k + 1, V2, false, rfl, by go_num, by omega, (fun _ j hj => by
            rcases Nat.lt_or_ge j k with h | h
            · rw [EV.out j (by omega)]; first | exact HA.out rfl j h | exact HA.out trivial j h | exact HA.out j h
            · obtain rfl : j = k := by omega
              rw [HWK.out]; omega), HG.out, K0.out⟩
          case measure => simp [intOf]; omega
    · obtain rfl : k = pm := by omega
      have y1 : decide ((k : Int) < (k : Int)) = false := decide_eq_false (by omega)
      have TC := Lib.hid (gTick (p := ⟨pc, pq, pA, pk, 0, pE, pe, k⟩) HG.out K0.out (by omega))
      have y9 : IntKind.i64.wrap ((t : Int) + 1) = (t : Int) + 1 := IntWalk.i64_in _ ⟨by omega, by omega⟩
      clear K0
      go_wp2_with fail
      refine TC.out.mono ?_
      rintro e7 w7 ⟨who, ld, lc, T', V', s', D, cd, C, cc, M, cm, nd, nc, nm, hP, hG2, hnd, hnc, hnm, rfl, hK2⟩
      obtain ⟨rfl, rfl, rfl, rfl, hwho⟩ := tick_servers hP HG.out.idle_all
      obtain rfl : nd = 0 := hnd.symm
      obtain rfl : nc = 0 := hnc.symm
      obtain rfl : nm = 0 := hnm.symm
      have G2 := Lib.hid hG2
      have HST := Lib.hid (fun j (hj : j < k) => hadV_step HG.out who xb j hj)
      have K3 := hK2.box 39 #[.int .i64 who, .slice D 0 cd, .slice C 0 cc, .slice M 0 cm]
      obtain ⟨g7, hg7⟩ : ∃ g, w7.heap.size = g := ⟨_, rfl⟩
      rw [hg7, List.append_assoc] at K3
      have K4 := K3.comm
      obtain ⟨a0, a1, a2, a3⟩ := (K4.blk 1 rfl).four4
      have hwho2 : (any = true ∧ ∃ i, i < k ∧ who = 100 + (i : Int)) ∨ who = -1 := by
        rcases hwho with ⟨i, hi, hc, hw, _⟩ | ⟨_, hw, _⟩
        · refine Or.inl ⟨?_, i, hi, hw⟩
          cases any with
          | true => rfl
          | false => have := HA.out rfl i hi; have := hc.1; omega
        · exact Or.inr hw
      have K5 := Lib.hid K4
      clear TC hP hG2 hnd hnc hnm hK2 K3 hwho HG
      rcases hwho2 with ⟨rfl, i, hi, rfl⟩ | rfl
      · have q0 : decide (100 ≤ 100 + (i : Int)) = true := decide_eq_true (by omega)
        have q1 : IntKind.i64.wrap (100 + (i : Int) - 100) = (i : Int) := by rw [show 100 + (i : Int) - 100 = (i : Int) by omega]; exact IntWalk.i64_in _ ⟨by omega, by omega⟩
        have q2 : 100 + (i : Int) - 100 = (i : Int) := by omega
        by_cases hbt : xb ≤ t
        · have q3 : decide ((xb : Int) ≤ (t : Int)) = true := decide_eq_true (by omega)
          have q3' : decide (xb ≤ t) = true := decide_eq_true hbt
          have c0 := K4.arr_cell 0 rfl hi
          have c1 := K4.arr_frozen 0 rfl i
          unfold hadV at c0
          obtain ⟨N, hN⟩ : ∃ N, cntL (hit h (100 + (i : Int))) xb (t - xb) = N := ⟨_, rfl⟩
          have hNl : N ≤ 150 := by have := cntL_le (hit h (100 + (i : Int))) xb (t - xb); omega
          rw [hN] at c0
          have HN := Lib.hid hN
          have q4 : IntKind.u64.wrap ((N : Int) + 1) = (N : Int) + 1 := IntWalk.u64_in _ ⟨by omega, by omega⟩
          have K6 := Lib.hid (((K4.arr_set 0 rfl hi (.int .u64 ((N : Int) + 1))).arr_like (V' := hadV (putH h t (100 + (i : Int))) xb (t + 1)) 0 rfl (fun j hj => by
            rw [HST.out j hj]
            by_cases e : j = i
            · subst e
              rw [if_pos rfl, if_pos ⟨rfl, hbt⟩, HN.out]
            · have e2 : ¬ (100 + (i : Int) = 100 + (j : Int) ∧ xb ≤ t) := fun h => e (by omega)
              rw [if_neg e, if_neg e2, Int.add_zero]; rfl)).drop 1 (by simp))
          clear K4 K5 hN hbt
          go_wp2_with fail
          go_roundw
          case rel => exact ⟨t + 1, _, _, _, _, _, _, by go_num, by omega, G2.out, K6.out.comm⟩
          case measure => simp [intOf]; omega
        · have q3 : decide ((xb : Int) ≤ (t : Int)) = false := decide_eq_false (by omega)
          have q3' : decide (xb ≤ t) = false := decide_eq_false hbt
          have K6 := Lib.hid ((K4.arr_like (V' := hadV (putH h t (100 + (i : Int))) xb (t + 1)) 0 rfl (fun j hj => by
            have e2 : ¬ (100 + (i : Int) = 100 + (j : Int) ∧ xb ≤ t) := fun h => hbt h.2
            rw [HST.out j hj, if_neg e2, Int.add_zero]; rfl)).drop 1 (by simp))
          clear K4 K5 hbt
          go_wp2_with fail
          go_roundw
          case rel => exact ⟨t + 1, _, _, _, _, _, _, by go_num, by omega, G2.out, K6.out.comm⟩
          case measure => simp [intOf]; omega
      · have K6 := Lib.hid ((K4.arr_like (V' := hadV (putH h t (-1)) xb (t + 1)) 0 rfl (fun j hj => by
            have e2 : ¬ ((-1 : Int) = 100 + (j : Int) ∧ xb ≤ t) := fun h => by omega
            rw [HST.out j hj, if_neg e2, Int.add_zero]; rfl)).drop 1 (by simp))
        clear K4 K5
        cases any with
        | true =>
          go_wp2_with fail
          go_roundw
          case rel => exact ⟨t + 1, _, _, _, _, _, _, by go_num, by omega, G2.out, K6.out.comm⟩
          case measure => simp [intOf]; omega
        | false =>
          go_wp2_with fail
          go_roundw
          case rel => exact ⟨t + 1, _, _, _, _, _, _, by go_num, by omega, G2.out, K6.out.comm⟩
          case measure => simp [intOf]; omega
  · obtain rfl : t = 150 := by omega
    have HM := Lib.hid (fun k (hk : k < pm) => show cntL (hit h (100 + (k : Int))) xb (150 - xb) ≤ most14 (S k) (150 - xb) from by
      have a := (HG.out.sv k hk).most
      obtain ⟨e1, e2⟩ := HG.out.ss k hk
      obtain ⟨o1, o2, o3, o4⟩ := HG.out.sok k hk
      have h1 := cntL_span (P := (V k).P.toNat) (B := (V k).B.toNat) (by omega) a xb (150 - xb)
      rw [e1, e2] at h1
      have h2 := cntL_le (hit h (100 + (k : Int))) xb (150 - xb)
      unfold most14; omega)
    have HOK := Lib.hid HG.out.sok
    obtain ⟨y, hy⟩ : ∃ y : Int, (150 : Int) - (xb : Int) = y := ⟨_, rfl⟩
    have HY := Lib.hid (show y = ((150 - xb : Nat) : Int) by omega)
    have w1' : IntKind.i64.wrap y = y := IntWalk.i64_in _ ⟨by omega, by omega⟩
    have w2' : IntKind.u64.wrap y = y := IntWalk.u64_in _ ⟨by omega, by omega⟩
    clear HG
    go_wp2_with fail
    go_loopw [16] (fun x16 wi => ∃ k : Nat, x16 = .int .i64 (k : Int) ∧ k ≤ pm ∧ St w None wi (CpuL ⟨pc, pq, pA, pk, 0, pE, pe, pm⟩ T V ((150 : Nat) : Int) s ++ [ArrR hb 31 pm (hadV h xb 150)])) (fun x _ => pm - (intOf x).toNat)
    case atStart => exact ⟨0, rfl, by omega, K0.out⟩
    case round =>
    clear K0
    obtain ⟨k, rfl, hk, hK⟩ := hrel
    have K0 := Lib.hid hK
    by_cases hkm : k < pm
    · have y1 : decide ((k : Int) < (pm : Int)) = true := decide_eq_true (by omega)
      have y1' : decide (k < pm) = true := decide_eq_true hkm
      have hM := HM.out k hkm
      have MC := Lib.hid (fun W => rmost14_c (S k) (HOK.out k hkm) (150 - xb) (by omega) W _ rfl)
      rw [← HY.out] at MC
      obtain ⟨ib, off, rfl, e0, e1⟩ := RS.out.at_ hK.below hkm
      have CE := Lib.hid (fun (x : Within (fun W => Below wr.heap.size wr W)) => RS.out.at_ (below_then hK.below x.h) hkm)
      have CA := Lib.hid (fun (x : Within (fun W => Below wr.heap.size wr W)) => (hK.stay x.h).comm.arr_cell 0 rfl hkm)
      haveI : Nonempty (Within (fun W => Below wr.heap.size wr W)) := ⟨⟨_, Below.refl _ _⟩⟩
      obtain ⟨N, hN⟩ : ∃ N : Int, ((cntL (hit h (100 + (k : Int))) xb (150 - xb) : Nat) : Int) = N := ⟨_, rfl⟩
      obtain ⟨M, hMM⟩ : ∃ M : Int, ((most14 (S k) (150 - xb) : Nat) : Int) = M := ⟨_, rfl⟩
      have y3 : decide (M < N) = false := decide_eq_false (by omega)
      rw [hMM] at MC
      have v0 : ∀ x : Within (fun W => Below wr.heap.size wr W), x.w.cell? ⟨hb, k, none⟩ = some (.int .u64 N) := fun x => by
        have h := CA.out x
        unfold hadV at h
        rw [hN] at h; exact h
      have v1 : ∀ x : Within (fun W => Below wr.heap.size wr W), x.w.cell? ⟨ib, off + k * 2, none⟩ = some (.int .i64 (S k).b) := fun x => by
        obtain ⟨b', o', h0, h1, h2⟩ := CE.out x
        injection h0 with h0
        injection h0 with h01 h02
        subst h01 h02
        exact h1
      have v2 : ∀ x : Within (fun W => Below wr.heap.size wr W), x.w.cell? ⟨ib, off + k * 2 + 1, none⟩ = some (.int .u64 (S k).per) := fun x => by
        obtain ⟨b', o', h0, h1, h2⟩ := CE.out x
        injection h0 with h0
        injection h0 with h01 h02
        subst h01 h02
        exact h2
      have k0 : (0 : Int) ≤ (k : Int) := by omega
      have k1 : (k : Int) < (pm : Int) := by omega
      clear hK hM hN hMM e0 e1
      go_wp2_with fail
      refine wp_region_in (fun W => Below wr.heap.size wr W) (by kernel_rfl) (by kernel_rfl) (Below.refl _ _).drew ?_
      repeat (go_big_quiet_step ((go_at_call 20; exact in_call (p := (fun W => Below wr.heap.size wr W)) ((MC.out _).mono fun e w' h => ⟨h.1, below_then (Within.h (p := (fun W => Below wr.heap.size wr W)) _) h.2⟩))))
      refine wpQuiet_nil ?_
      rintro _ ⟨⟨wq, sq⟩, rfl⟩
      clear v0 v1 v2
      have K1 := Lib.hid (K0.out.stay sq)
      go_wp2_with fail
      go_roundw
      case rel => exact ⟨k + 1, by go_num, by omega, K1.out⟩
      case measure => simp [intOf]; omega
    · obtain rfl : k = pm := by omega
      have y1 : decide ((k : Int) < (k : Int)) = false := decide_eq_false (by omega)
      have BB := hK.below
      go_wp2_with fail
      go_ret
      exact ⟨rfl, BB⟩

set_option maxRecDepth 100000 in
theorem lifted (os : Os) (started : os.Started) (H : Type) (enc : TypeId × Value → H) :
    ReturnsInHanded {} Try.checked os 4 .any (Rows.cpuServesSpec.pre6 enc Try.prog Try.f4 Rows.cpuServesRow.domain false) (Rows.cpuServesSpec.post enc Try.prog Try.f4 false true false false) := by
  refine law_lifted (C := Try.checked) (tb := 4) own started (by kernel_rfl) Try.func4
    (ChangeSpec.witness6 (enc := enc) (C := Try.checked) false ⟨#[], #[.slice none 0 0, .slice none 0 0, .int .u8 0], []⟩ 8 (by kernel_rfl) (by kernel_rfl) (by kernel_rfl) (by kernel_rfl)) laid (by kernel_rfl) (by kernel_rfl) Try.underlying4 rfl ?_
  intro W base args ds ps hval0 hA0 hlt
  have hval : ∀ (j : Nat) t v, Try.f4.params[j]? = some t → args[j]? = some v → Value.okWide Try.prog W .any base t v := hval0
  have hA : DataW.TrodAll enc Try.prog W 0 (fun _ => true) true Try.f4.params.toList args.toList ds ps := hA0
  clear hA0 hval0
  rw [Try.params4] at hA hval
  obtain ⟨v0, vs0, d0, ds0, p0, q0, hargs, rfl, rfl, h0, r0⟩ := trodAll_cons hA
  obtain ⟨v1, vs1, d1, ds1, p1, q1, rfl, rfl, rfl, h1, r1⟩ := trodAll_cons r0
  obtain ⟨v2, vs2, d2, ds2, p2, q2, rfl, rfl, rfl, h2, r2⟩ := trodAll_cons r1
  obtain ⟨rfl, rfl, rfl⟩ := trodAll_nil r2
  obtain rfl : args = #[v0, v1, v2] := by cases args; simp_all
  obtain ⟨A0, n0, cap0, V0, rfl, le0, mx0, rd0, lf0⟩ := open_slice_spots (m := 2) (d := 20) (l := [(0, 3), (1, 31)]) Try.underlying23 (by kernel_rfl) (by decide) (by kernel_rfl) (hval 0 23 v0 rfl rfl) h0
  have f0_0 := fun j hj => leaf_int Try.underlying3 (lf0 0 3 (by simp) j hj)
  have f0_1 := fun j hj => leaf_int Try.underlying31 (lf0 1 31 (by simp) j hj)
  obtain ⟨A1, n1, cap1, f1, rfl, le1, mx1, wf1, rd1⟩ := open_slice_ints Try.underlying43 Try.underlying5 (by kernel_rfl) (hval 1 43 v1 rfl rfl) h1
  obtain ⟨a2, rfl, rfl, rfl, w2⟩ := open_int Try.underlying5 (hval 2 5 v2 rfl rfl) h2
  refine ⟨⟨rfl, rfl, rfl⟩, ?_⟩
  obtain ⟨S, hS⟩ := Go.Deep.choose_lt (n := n0) (p := fun j (d : Ld) => V0 j 0 = .int .i64 d.b ∧ V0 j 1 = .int .u64 d.per ∧ d.typed) (fun j hj => by
    obtain ⟨x0, h0, w0⟩ := f0_0 j hj
    obtain ⟨x1, h1, w1⟩ := f0_1 j hj
    exact ⟨⟨x0, x1⟩, h0, h1, bounds_i64 w0, bounds_u64 w1⟩)
  exact walk A0 A1 n0 cap0 n1 cap1 S f1 a2 W (by omega) (by omega) (ls_of rd0 fun j hj => ⟨(hS j hj).1, (hS j hj).2.1⟩) (fun j hj => (hS j hj).2.2) rd1 (fun i => bounds_u8 (wf1 i)) (bounds_u8 w2)

theorem over : Rows.cpuServesRow.holds Try.pinned (OpenSpec.ofChange Rows.cpuServesSpec) :=
  OpenClaim.holds_of_wide 4 Try.f4 rfl rfl rfl rfl rfl rfl rfl ⟨rfl, rfl, rfl, rfl, rfl⟩ rfl rfl rfl rfl rfl (by kernel_rfl) Try.func4 (by kernel_rfl)
    (of_decide_eq_true (by kernel_rfl)) (by unfold Func.isWrapper; first | (rw [if_pos (by decide +kernel)]; kernel_rfl) | (rw [if_neg (by decide +kernel)]; exact ⟨rfl, rfl⟩))
    (fun os started H enc _ => lifted os started H enc)
theorem proved : Rows.CpuServesSaid := over
#print axioms proved
end Go.Proofs.Ytdnonhhphkmlmaa.cpuServes
