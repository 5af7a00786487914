/-
  For every task and every slice of bools CpuOften answers true, and changes nothing: released as often as may be a task's jobs are a period apart at least; ahead of that one is refused, by whichever code. No condition.
-/
import Derived.Test.YtdnonhhphkmlmaaRows
import Derived.Test.YtdnonhhphkmlmaaFr
import Derived.Test.YtdnonhhphkmlmaaCpuU
import Derived.Test.YtdnonhhphkmlmaaCpuV
import Derived.Test.YtdnonhhphkmlmaaOpen
namespace Go.Proofs.Ytdnonhhphkmlmaa.cpuOften
open Go.ChangeShapes Go.WideShapes Go.ChangeAt Go.RowKit
set_option linter.unusedVariables false
theorem own : ownKnob Try.prog.godebug = none := by kernel_rfl
theorem laid : laidOutB Try.prog = true := by kernel_rfl
set_option maxRecDepth 100000
set_option maxHeartbeats 4000000
theorem tick_keep {W : Nat → Wk} {S : Nat → Ld} {t : Nat} {T T' : Nat → CTk} {V V' : Nat → Sv} {s s' : QS} {h : Nat → Int} {r b : Nat → Nat → Bool} {who : Int} {ld lc : List Nat} (G : Gh 1 0 W S (t + 1) T' V' s' h r b) (hP : TickP 1 0 T V t s who ld lc T' V' s') :
    (T' 0).began = (T 0).began ∧ (T' 0).rel = (T 0).rel := by
  rcases hP with ⟨k, hk, _⟩ | ⟨_, _, ⟨x, l, _, hx, _, _, rfl, _⟩ | ⟨_, _, _, _, rfl, _⟩⟩
  · omega
  · have e : x.1 = 0 := by omega
    rw [e, updK_self]; exact ⟨rfl, rfl⟩
  · exact ⟨rfl, rfl⟩
theorem walk (p c r d : Int) (A : Option Addr) (n cap : Nat) (f : Nat → Bool) (w : World) (hcn : n ≤ cap) (hcm : cap ≤ maxLen) (rd : Rd w A n (fun i => .bool (f i))) :
    Calls Try.prog 6 #[.agg (Wk.cells ⟨p, c, r, d⟩), .slice A n cap] w fun r' w' => r' = .returned (.bool true) ∧ Below w.heap.size w w' := by
  unfold maxLen at hcm
  have s0 := (St.begin w).box 52 (Wk.cells ⟨p, c, r, d⟩)
  obtain ⟨g, hg⟩ : ∃ g, w.heap.size = g := ⟨_, rfl⟩
  rw [hg, List.nil_append] at s0
  have S0' := Lib.hid s0
  have RD := Lib.hid rd
  clear s0 rd
  go_enter Try.func6, Try.ntmps6
  go_wp2_with fail
  refine (awake_any _).mono ?_
  rintro e1 wr ⟨rfl, hb⟩
  have sr := S0'.out.stay hb
  clear hb S0'
  obtain ⟨k0, k1, k2, k3⟩ := (sr.blk 0 rfl).four4
  have SR := Lib.hid sr
  clear sr
  by_cases ha : Wk.ok ⟨p, c, r, d⟩
  case neg =>
    have RA := Lib.hid (fun W => rwmay p c r d W false (decide_eq_false ha).symm)
    clear ha
    go_wp2_with fail
    refine (RA.out _).mono ?_
    rintro e2 w2 ⟨rfl, hb2⟩
    have BB := (SR.out.stay hb2).below
    clear hb2
    go_wp2_with fail
    go_ret
    exact ⟨rfl, by rw [hg] at BB ⊢; exact BB⟩
  have RA := Lib.hid (fun W => rwmay p c r d W true (decide_eq_true ha).symm)
  have HA := Lib.hid ha
  obtain ⟨-, o1, o2, o3, o4⟩ := ha
  dsimp only at o1 o2 o3 o4
  go_wp2_with fail
  refine (RA.out _).mono ?_
  rintro e2 w2 ⟨rfl, hb2⟩
  have s2 := SR.out.stay hb2
  clear hb2 SR k0 k1 k2 k3 RA
  obtain ⟨k0, k1, k2, k3⟩ := (s2.blk 0 rfl).four4
  have S2 := Lib.hid s2
  clear s2
  by_cases hr : 300 < r
  · have z0 : decide (300 < r) = true := decide_eq_true hr
    have BB := S2.out.below
    go_wp2_with fail
    go_ret
    exact ⟨rfl, by rw [hg] at BB ⊢; exact BB⟩
  have z0 : decide (300 < r) = false := decide_eq_false hr
  by_cases he : n = 0
  · have z1 : ((n : Int) == 0) = true := beq_iff_eq.2 (by omega)
    have z1' : (n == 0) = true := beq_iff_eq.2 he
    have BB := S2.out.below
    go_wp2_with fail
    go_ret
    exact ⟨rfl, by rw [hg] at BB ⊢; exact BB⟩
  have z1 : ((n : Int) == 0) = false := beq_eq_false_iff_ne.2 (by omega)
  have z1' : (n == 0) = false := beq_eq_false_iff_ne.2 he
  have s3 := S2.out.box 52 (Wk.cells ⟨p, c, r, d⟩)
  obtain ⟨W3, hW3⟩ : ∃ W3, w2.alloc (.cells (Wk.cells ⟨p, c, r, d⟩) 52) = W3 := ⟨_, rfl⟩
  obtain ⟨g3, hg3⟩ : ∃ g, w2.heap.size = g := ⟨_, rfl⟩
  rw [hW3, hg3] at s3
  have TOK1 : TOK 1 (fun _ => (⟨p, c, r, d⟩ : Wk)) := ⟨by omega, fun j _ => HA.out⟩
  have NC := Lib.hid (cNew_c (ca := 1) (ce := 0) (blk_ts1 (T := fun _ => (⟨p, c, r, d⟩ : Wk)) (a := ⟨p, c, r, d⟩) (s3.blk 1 rfl) rfl) (ls_none W3 awS) TOK1 (lok_none awS) (ltyped_none awS))
  have HTOK := Lib.hid TOK1
  have S3 := Lib.hid s3
  clear s3 S2 TOK1
  go_wp2_with fail
  refine NC.out.mono ?_
  rintro e3 w3 ⟨P, V, rfl, hn, hm, hV, s4⟩
  obtain ⟨pc, pq, pA, pk, pn, pE, pe, pm⟩ := P
  dsimp only at hn hm
  subst hn hm
  have K0 := Lib.hid (St.cpu S3.out s4)
  have G0 := Lib.hid (Gh.anew HTOK.out (lok_none awS) hV)
  obtain ⟨sb, off, rfl, hsb, hcell⟩ := RD.out (by omega)
  have HCELL := Lib.hid hcell
  clear s4 hV S3 NC hW3 k0 k1 k2 k3 hcell
  go_wp2_with fail
  go_loopw [7, 8, 9, 10, 11, 12, 13, 14] (fun x7 x8 x9 x10 x11 x12 x13 x14 wr => ∃ (k : Nat) (T : Nat → CTk) (V : Nat → Sv) (s : QS) (h : Nat → Int) (rr b : Nat → Nat → Bool) (l : Int) (ev : Bool), x7 = .int .u64 l ∧ x8 = .bool ev ∧ x9 = .int .u64 (k : Int) ∧ k ≤ 600 ∧ (T 0).began = ev ∧ (0 ≤ l ∧ l ≤ k) ∧ (ev = true → (T 0).rel = l) ∧ Gh 1 0 (fun _ => ⟨p, c, r, d⟩) awS k T V s h rr b ∧
    St w None wr (CpuL ⟨pc, pq, pA, pk, 1, pE, pe, 0⟩ T V (k : Int) s ++ [BlkR g 52 (Wk.cells ⟨p, c, r, d⟩), BlkR g3 52 (Wk.cells ⟨p, c, r, d⟩)])) (fun _ _ x _ _ _ _ _ _ => 600 - (intOf x).toNat)
  case atStart => exact ⟨0, _, _, _, _, _, _, 0, false, rfl, rfl, rfl, by omega, rfl, by omega, (fun h => by cases h), G0.out, K0.out⟩
  case round =>
  clear G0 K0
  obtain ⟨k, T, V, s, h, rr, b, l, ev, rfl, rfl, rfl, hk, hev, hl, hel, hG, hK⟩ := hrel
  have HEV := Lib.hid hev
  have HEL := Lib.hid hel
  have HG := Lib.hid hG
  have K0 := Lib.hid hK
  by_cases hlt : k < 600
  case neg =>
    obtain rfl : k = 600 := by omega
    have NW := Lib.hid (cNow_c hK)
    have BB := hK.below
    clear hG hK hev hel
    go_wp2_with fail
    refine NW.out.mono ?_
    rintro e5 w5 ⟨rfl, rfl⟩
    go_wp2_with fail
    go_ret
    exact ⟨rfl, by rw [hg] at BB ⊢; exact BB⟩
  have z2 : decide ((k : Int) < 600) = true := decide_eq_true (by omega)
  have z2' : decide (k < 600) = true := decide_eq_true hlt
  have y9 : IntKind.u64.wrap ((k : Int) + 1) = (k : Int) + 1 := IntWalk.u64_in _ ⟨by omega, by omega⟩
  have hkn : k % n < n := Nat.mod_lt _ (by omega)
  have hnp : 0 < n := by omega
  have hBB := hK.below
  have hy : wr.cell? ⟨sb, off + k % n, none⟩ = some (.bool (f (k % n))) := (hBB.cell (p := ⟨sb, off + k % n, none⟩) (by rw [hg] at hsb ⊢; exact hsb)).trans (HCELL.out _ hkn)
  by_cases hfk : f (k % n) = true
  case neg =>
    have hfk : f (k % n) = false := by simpa using hfk
    rw [hfk] at hy
    have TC := Lib.hid (gTick (p := ⟨pc, pq, pA, pk, 1, pE, pe, 0⟩) hG hK (by omega))
    clear hG hK hev hel hBB hfk
    go_wp2_with fail
    refine TC.out.mono ?_
    rintro e7 w7 ⟨who, ld, lc, T', V', s', D, cd, C, cc, M, cm, nd, nc, nm, hP, hG2, -, -, -, rfl, hK2⟩
    have HB := Lib.hid (tick_keep hG2 hP)
    have G2 := Lib.hid hG2
    have K2 := Lib.hid hK2
    clear TC hP hG2 hK2
    go_wp2_with fail
    go_roundw
    case rel => exact ⟨k + 1, _, _, _, _, _, _, l, ev, rfl, rfl, by go_num, by omega, by rw [HB.out.1]; exact HEV.out, by omega, (fun h => by rw [HB.out.2]; first | exact HEL.out h | exact HEL.out trivial | exact HEL.out), G2.out, K2.out⟩
    case measure => simp [intOf]; omega
  rw [hfk] at hy
  have JC := Lib.hid (cJob_c (id := 0) hK)
  obtain ⟨th, hth⟩ : ∃ th, (T 0).there = th := ⟨_, rfl⟩
  have HTH := Lib.hid hth
  have HW := Lib.hid (hG.ws 0 (by omega))
  have y8 : IntKind.u64.wrap (c + 1) = c + 1 := IntWalk.u64_in _ ⟨by omega, by omega⟩
  have y7 : IntKind.u64.wrap ((k : Int) - l) = (k : Int) - l := IntWalk.u64_in _ ⟨by omega, by omega⟩
  clear hG hK hev hel hBB hfk
  cases th with
  | true =>
    have ej : jobA 1 T 0 = ((T 0).ran, (T 0).unt, true) := jobA_yes (j := 0) (by omega) HTH.out
    rw [ej] at JC
    generalize (T 0).ran = ja at JC
    generalize (T 0).unt = jb at JC
    clear ej hth
    go_wp2_with fail
    refine JC.out.mono ?_
    rintro e5 w5 ⟨rfl, hK⟩
    obtain ⟨k0, k1, k2, k3⟩ := (hK.comm.blk 0 rfl).four4
    have RC := Lib.hid (gRelease (p := ⟨pc, pq, pA, pk, 1, pE, pe, 0⟩) (id := 0) (dem := c + 1) HG.out hK (by omega) (by omega))
    clear JC hK
    go_wp2_with fail
    refine RC.out.mono ?_
    rintro e6 w6 ⟨f2, T1, s1, r1, hR, rfl, K1⟩
    obtain rfl : f2 = 12 := by rw [hR.fe]; exact relA_there (j := 0) (show 0 < 1 by omega) HTH.out (by omega)
    obtain ⟨rfl, rfl, rfl⟩ := hR.no (by decide)
    have TC := Lib.hid (gTick (p := ⟨pc, pq, pA, pk, 1, pE, pe, 0⟩) hR.G K1 (by omega))
    have K1' := K1.comm
    obtain ⟨k0, k1, k2, k3⟩ := (K1'.blk 0 rfl).four4
    clear RC hR K1 K1'
    go_wp2_with fail
    refine TC.out.mono ?_
    rintro e7 w7 ⟨who, ld, lc, T', V', s', D, cd, C, cc, M, cm, nd, nc, nm, hP, hG2, -, -, -, rfl, hK2⟩
    have HB := Lib.hid (tick_keep hG2 hP)
    have G2 := Lib.hid hG2
    have K2 := Lib.hid hK2
    clear TC hP hG2 hK2
    go_wp2_with fail
    go_roundw
    case rel => exact ⟨k + 1, _, _, _, _, _, _, l, ev, rfl, rfl, by go_num, by omega, by rw [HB.out.1]; exact HEV.out, by omega, (fun h => by rw [HB.out.2]; first | exact HEL.out h | exact HEL.out trivial | exact HEL.out), G2.out, K2.out⟩
    case measure => simp [intOf]; omega
  | false =>
    have ej : jobA 1 T 0 = (0, 0, false) := jobA_no (j := 0) HTH.out
    rw [ej] at JC
    clear ej hth
    go_wp2_with fail
    refine JC.out.mono ?_
    rintro e5 w5 ⟨rfl, hK⟩
    obtain ⟨k0, k1, k2, k3⟩ := (hK.comm.blk 0 rfl).four4
    have RC := Lib.hid (gRelease (p := ⟨pc, pq, pA, pk, 1, pE, pe, 0⟩) (id := 0) (dem := c + 1) HG.out hK (by omega) (by omega))
    clear JC hK
    by_cases hsoon : ev = true ∧ (k : Int) - l < r
    · obtain ⟨hev, hsoon⟩ := hsoon
      have y6 : decide (r ≤ (k : Int) - l) = false := decide_eq_false (by omega)
      subst hev
      go_wp2_with fail
      refine RC.out.mono ?_
      rintro e6 w6 ⟨f2, T1, s1, r1, hR, rfl, K1⟩
      obtain rfl : f2 = 11 := by
        rw [hR.fe]
        refine relA_soon (j := 0) (show 0 < 1 by omega) HTH.out HEV.out ?_ (by omega)
        rw [(by first | exact HEL.out rfl | exact HEL.out trivial | exact HEL.out : (T 0).rel = l), HW.out.2.2.1]; exact hsoon
      obtain ⟨rfl, rfl, rfl⟩ := hR.no (by decide)
      have TC := Lib.hid (gTick (p := ⟨pc, pq, pA, pk, 1, pE, pe, 0⟩) hR.G K1 (by omega))
      have K1' := K1.comm
      obtain ⟨k0, k1, k2, k3⟩ := (K1'.blk 0 rfl).four4
      clear RC hR K1 K1'
      go_wp2_with fail
      refine TC.out.mono ?_
      rintro e7 w7 ⟨who, ld, lc, T', V', s', D, cd, C, cc, M, cm, nd, nc, nm, hP, hG2, -, -, -, rfl, hK2⟩
      have HB := Lib.hid (tick_keep hG2 hP)
      have G2 := Lib.hid hG2
      have K2 := Lib.hid hK2
      clear TC hP hG2 hK2
      go_wp2_with fail
      go_roundw
      case rel => exact ⟨k + 1, _, _, _, _, _, _, l, true, rfl, rfl, by go_num, by omega, by rw [HB.out.1]; exact HEV.out, by omega, (fun h => by rw [HB.out.2]; first | exact HEL.out h | exact HEL.out trivial | exact HEL.out), G2.out, K2.out⟩
      case measure => simp [intOf]; omega
    · have y6 : ev = true → decide (r ≤ (k : Int) - l) = true := fun h => decide_eq_true (Int.not_lt.1 fun h2 => hsoon ⟨h, h2⟩)
      have HS := Lib.hid hsoon
      clear hsoon
      cases ev with
      | false =>
        clear y6
        go_wp2_with fail
        refine RC.out.mono ?_
        rintro e6 w6 ⟨f2, T1, s1, r1, hR, rfl, K1⟩
        obtain rfl : f2 = 0 := by
          rw [hR.fe]
          refine relA_first (j := 0) (show 0 < 1 by omega) HTH.out (fun h => by rw [HEV.out] at h; cases h) ?_ (by omega)
          rw [HW.out.2.2.2]; show (k : Int) + d < _; omega
        obtain ⟨-, -, -, -, -, hT1, -, -⟩ := hR.yes rfl
        have TC := Lib.hid (gTick (p := ⟨pc, pq, pA, pk, 1, pE, pe, 0⟩) hR.G K1 (by omega))
        have HT1 := Lib.hid (show (T1 0).began = true ∧ (T1 0).rel = (k : Int) by rw [hT1]; exact ⟨rfl, rfl⟩)
        have K1' := K1.comm
        obtain ⟨k0, k1, k2, k3⟩ := (K1'.blk 0 rfl).four4
        clear RC hR K1 K1' hT1
        go_wp2_with fail
        refine TC.out.mono ?_
        rintro e7 w7 ⟨who, ld, lc, T', V', s', D, cd, C, cc, M, cm, nd, nc, nm, hP, hG2, -, -, -, rfl, hK2⟩
        have HB := Lib.hid (tick_keep hG2 hP)
        have G2 := Lib.hid hG2
        have K2 := Lib.hid hK2
        clear TC hP hG2 hK2
        go_wp2_with fail
        go_roundw
        case rel => exact ⟨k + 1, _, _, _, _, _, _, (k : Int), true, rfl, rfl, by go_num, by omega, by rw [HB.out.1]; exact HT1.out.1, by omega, (fun h => by rw [HB.out.2]; exact HT1.out.2), G2.out, K2.out⟩
        case measure => simp [intOf]; omega
      | true =>
        replace y6 := y6 rfl
        have HY6 := Lib.hid (show r ≤ (k : Int) - l from of_decide_eq_true y6)
        go_wp2_with fail
        refine RC.out.mono ?_
        rintro e6 w6 ⟨f2, T1, s1, r1, hR, rfl, K1⟩
        obtain rfl : f2 = 0 := by
          rw [hR.fe]
          refine relA_first (j := 0) (show 0 < 1 by omega) HTH.out (fun h => by rw [(by first | exact HEL.out rfl | exact HEL.out trivial | exact HEL.out : (T 0).rel = l), HW.out.2.2.1]; exact HY6.out) ?_ (by omega)
          rw [HW.out.2.2.2]; show (k : Int) + d < _; omega
        obtain ⟨-, -, -, -, -, hT1, -, -⟩ := hR.yes rfl
        have TC := Lib.hid (gTick (p := ⟨pc, pq, pA, pk, 1, pE, pe, 0⟩) hR.G K1 (by omega))
        have HT1 := Lib.hid (show (T1 0).began = true ∧ (T1 0).rel = (k : Int) by rw [hT1]; exact ⟨rfl, rfl⟩)
        have K1' := K1.comm
        obtain ⟨k0, k1, k2, k3⟩ := (K1'.blk 0 rfl).four4
        clear RC hR K1 K1' hT1
        go_wp2_with fail
        refine TC.out.mono ?_
        rintro e7 w7 ⟨who, ld, lc, T', V', s', D, cd, C, cc, M, cm, nd, nc, nm, hP, hG2, -, -, -, rfl, hK2⟩
        have HB := Lib.hid (tick_keep hG2 hP)
        have G2 := Lib.hid hG2
        have K2 := Lib.hid hK2
        clear TC hP hG2 hK2
        go_wp2_with fail
        go_roundw
        case rel => exact ⟨k + 1, _, _, _, _, _, _, (k : Int), true, rfl, rfl, by go_num, by omega, by rw [HB.out.1]; exact HT1.out.1, by omega, (fun h => by rw [HB.out.2]; exact HT1.out.2), G2.out, K2.out⟩
        case measure => simp [intOf]; omega

set_option maxRecDepth 100000 in
theorem lifted (os : Os) (started : os.Started) (H : Type) (enc : TypeId × Value → H) :
    ReturnsInHanded {} Try.checked os 6 .any (Rows.cpuOftenSpec.pre6 enc Try.prog Try.f6 Rows.cpuOftenRow.domain false) (Rows.cpuOftenSpec.post enc Try.prog Try.f6 false true false false) := by
  refine law_lifted (C := Try.checked) (tb := 4) own started (by kernel_rfl) Try.func6
    (ChangeSpec.witness6 (enc := enc) (C := Try.checked) false ⟨#[], #[.agg #[.int .i64 0, .int .u64 0, .int .u64 0, .int .u64 0], .slice none 0 0], []⟩ 8 (by kernel_rfl) (by kernel_rfl) (by kernel_rfl) (by kernel_rfl)) laid (by kernel_rfl) (by kernel_rfl) Try.underlying4 rfl ?_
  intro W base args ds ps hval0 hA0 hlt
  have hval : ∀ (j : Nat) t v, Try.f6.params[j]? = some t → args[j]? = some v → Value.okWide Try.prog W .any base t v := hval0
  have hA : DataW.TrodAll enc Try.prog W 0 (fun _ => true) true Try.f6.params.toList args.toList ds ps := hA0
  clear hA0 hval0
  rw [Try.params6] at hA hval
  obtain ⟨v0, vs0, d0, ds0, p0, q0, hargs, rfl, rfl, h0, r0⟩ := trodAll_cons hA
  obtain ⟨v1, vs1, d1, ds1, p1, q1, rfl, rfl, rfl, h1, r1⟩ := trodAll_cons r0
  obtain ⟨rfl, rfl, rfl⟩ := trodAll_nil r1
  obtain rfl : args = #[v0, v1] := by cases args; simp_all
  obtain ⟨cs0, rfl, sz0, ok0⟩ := open_flat (ts := [3, 31, 31, 31]) (Or.inl ⟨_, Try.underlying52⟩) (by kernel_rfl) (by kernel_rfl) (hval 0 52 v0 rfl rfl)
  obtain ⟨c0_0, c0_1, c0_2, c0_3, rfl⟩ := size4 sz0
  obtain ⟨a0_0, rfl, w0_0⟩ := cell_int Try.underlying3 (ok0 0 _ _ rfl rfl)
  obtain ⟨a0_1, rfl, w0_1⟩ := cell_int Try.underlying31 (ok0 1 _ _ rfl rfl)
  obtain ⟨a0_2, rfl, w0_2⟩ := cell_int Try.underlying31 (ok0 2 _ _ rfl rfl)
  obtain ⟨a0_3, rfl, w0_3⟩ := cell_int Try.underlying31 (ok0 3 _ _ rfl rfl)
  obtain ⟨A1, n1, cap1, f1, rfl, le1, mx1, rd1⟩ := open_slice_bools Try.underlying56 Try.underlying4 (by kernel_rfl) (hval 1 56 v1 rfl rfl) h1
  refine ⟨⟨rfl, rfl, rfl⟩, ?_⟩
  exact walk a0_0 a0_1 a0_2 a0_3 A1 n1 cap1 f1 W le1 mx1 rd1

theorem over : Rows.cpuOftenRow.holds Try.pinned (OpenSpec.ofChange Rows.cpuOftenSpec) :=
  OpenClaim.holds_of_wide 6 Try.f6 rfl rfl rfl rfl rfl rfl rfl ⟨rfl, rfl, rfl, rfl, rfl⟩ rfl rfl rfl rfl rfl (by kernel_rfl) Try.func6 (by kernel_rfl)
    (of_decide_eq_true (by kernel_rfl)) (by unfold Func.isWrapper; first | (rw [if_pos (by decide +kernel)]; kernel_rfl) | (rw [if_neg (by decide +kernel)]; exact ⟨rfl, rfl⟩))
    (fun os started H enc _ => lifted os started H enc)
theorem proved : Rows.CpuOftenSaid := over
#print axioms proved
end Go.Proofs.Ytdnonhhphkmlmaa.cpuOften
