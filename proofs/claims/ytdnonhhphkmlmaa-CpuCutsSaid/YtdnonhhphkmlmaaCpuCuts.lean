/-
  For every task and every demand of 16 bits CpuCuts answers true, and changes nothing: a job that wants more than its cost is cut off when it has had that, one that wants no more is done when it has had what it wants; then it is there no more. No condition.
-/
import Derived.Test.YtdnonhhphkmlmaaRows
import Derived.Test.YtdnonhhphkmlmaaFr
import Derived.Test.YtdnonhhphkmlmaaCpuU
import Derived.Test.YtdnonhhphkmlmaaCpuV
import Derived.Test.YtdnonhhphkmlmaaOpen
namespace Go.Proofs.Ytdnonhhphkmlmaa.cpuCuts
open Go.ChangeShapes Go.WideShapes Go.ChangeAt Go.RowKit
set_option linter.unusedVariables false
theorem own : ownKnob Try.prog.godebug = none := by kernel_rfl
theorem laid : laidOutB Try.prog = true := by kernel_rfl
set_option maxRecDepth 100000
set_option maxHeartbeats 4000000
/-- How the one job stands, when it has run so often. -/
def JS (k : Nat) (N c d e : Int) (x : CTk) : Prop := x.ran = k ∧ x.dem = e ∧ x.cost = c ∧ x.unt = d ∧ x.there = decide ((k : Int) < N)
theorem JS.step {k : Nat} {N c d e : Int} {x : CTk} (h : JS k N c d e x) (hN : N = min e c) (hk : (k : Int) < N) : JS (k + 1) N c d e (runT x) := by
  obtain ⟨h1, h2, h3, h4, h5⟩ := h
  refine ⟨by show x.ran + 1 = _; rw [h1]; rfl, h2, h3, h4, ?_⟩
  show (x.there && !overT x) = _
  rw [h5, decide_eq_true hk]
  unfold overT
  rw [h1, h2, h3]
  by_cases a : (k : Int) + 1 = e
  · rw [beq_iff_eq.2 a]
    exact (decide_eq_false (by omega)).symm
  · by_cases b : (k : Int) + 1 = c
    · rw [beq_iff_eq.2 b, Bool.or_true]
      exact (decide_eq_false (by omega)).symm
    · rw [beq_eq_false_iff_ne.2 a, beq_eq_false_iff_ne.2 b]
      exact (decide_eq_true (by omega)).symm
theorem walk (p c r d e : Int) (w : World) (be : 0 ≤ e ∧ e ≤ 65535) :
    Calls Try.prog 5 #[.agg (Wk.cells ⟨p, c, r, d⟩), .int .u16 e] w fun r' w' => r' = .returned (.bool true) ∧ Below w.heap.size w w' := by
  have s0 := (St.begin w).box 52 (Wk.cells ⟨p, c, r, d⟩)
  obtain ⟨g, hg⟩ : ∃ g, w.heap.size = g := ⟨_, rfl⟩
  rw [hg, List.nil_append] at s0
  have S0' := Lib.hid s0
  clear s0
  go_enter Try.func5, Try.ntmps5
  go_wp2_with fail
  refine (awake_any _).mono ?_
  rintro e1 wr ⟨rfl, hb⟩
  have sr := S0'.out.stay hb
  clear hb S0'
  obtain ⟨k0, k1, k2, k3⟩ := (sr.blk 0 rfl).four4
  have SR := Lib.hid sr
  clear sr
  by_cases ha : Wk.ok ⟨p, c, r, d⟩
  case neg =>
    have RA := Lib.hid (fun W => rwmay p c r d W false (decide_eq_false ha).symm)
    clear ha
    go_wp2_with fail
    refine (RA.out _).mono ?_
    rintro e2 w2 ⟨rfl, hb2⟩
    have BB := (SR.out.stay hb2).below
    clear hb2
    go_wp2_with fail
    go_ret
    exact ⟨rfl, by rw [hg] at BB ⊢; exact BB⟩
  have RA := Lib.hid (fun W => rwmay p c r d W true (decide_eq_true ha).symm)
  have HA := Lib.hid ha
  obtain ⟨-, o1, o2, o3, o4⟩ := ha
  dsimp only at o1 o2 o3 o4
  go_wp2_with fail
  refine (RA.out _).mono ?_
  rintro e2 w2 ⟨rfl, hb2⟩
  have s2 := SR.out.stay hb2
  clear hb2 SR k0 k1 k2 k3 RA
  obtain ⟨k0, k1, k2, k3⟩ := (s2.blk 0 rfl).four4
  have S2 := Lib.hid s2
  clear s2
  by_cases hr : 2000 < r
  · have z0 : decide (2000 < r) = true := decide_eq_true hr
    have BB := S2.out.below
    go_wp2_with fail
    go_ret
    exact ⟨rfl, by rw [hg] at BB ⊢; exact BB⟩
  have z0 : decide (2000 < r) = false := decide_eq_false hr
  by_cases he : e = 0
  · have z1 : (e == 0) = true := beq_iff_eq.2 he
    have BB := S2.out.below
    go_wp2_with fail
    go_ret
    exact ⟨rfl, by rw [hg] at BB ⊢; exact BB⟩
  have z1 : (e == 0) = false := beq_eq_false_iff_ne.2 he
  have hwe : IntKind.u64.wrap e = e := IntWalk.u64_in _ ⟨by omega, by omega⟩
  have s3 := S2.out.box 52 (Wk.cells ⟨p, c, r, d⟩)
  obtain ⟨W3, hW3⟩ : ∃ W3, w2.alloc (.cells (Wk.cells ⟨p, c, r, d⟩) 52) = W3 := ⟨_, rfl⟩
  obtain ⟨g3, hg3⟩ : ∃ g, w2.heap.size = g := ⟨_, rfl⟩
  rw [hW3, hg3] at s3
  have TOK1 : TOK 1 (fun _ => (⟨p, c, r, d⟩ : Wk)) := ⟨by omega, fun j _ => HA.out⟩
  have NC := Lib.hid (cNew_c (ca := 1) (ce := 0) (blk_ts1 (T := fun _ => (⟨p, c, r, d⟩ : Wk)) (a := ⟨p, c, r, d⟩) (s3.blk 1 rfl) rfl) (ls_none W3 awS) TOK1 (lok_none awS) (ltyped_none awS))
  have HTOK := Lib.hid TOK1
  have S3 := Lib.hid s3
  clear s3 S2 TOK1
  go_wp2_with fail
  refine NC.out.mono ?_
  rintro e3 w3 ⟨P, V, rfl, hn, hm, hV, s4⟩
  obtain ⟨pc, pq, pA, pk, pn, pE, pe, pm⟩ := P
  dsimp only at hn hm
  subst hn hm
  have K0 := St.cpu S3.out s4
  have G0 := Gh.anew HTOK.out (lok_none awS) hV
  clear s4 hV S3 NC hW3 k0 k1 k2 k3
  have RC := Lib.hid (gRelease (p := ⟨pc, pq, pA, pk, 1, pE, pe, 0⟩) (id := 0) (dem := e) G0 K0 (by omega) (by omega))
  have HR0 := Lib.hid (relA_first (n := 1) (T := fun _ => tk0 ⟨p, c, r, d⟩) (t := 0) (dem := e) (j := 0) (by omega) rfl (fun h => by cases h) (by show (0 : Int) + d < _; omega) he)
  clear G0 K0
  go_wp2_with fail
  refine RC.out.mono ?_
  rintro e4 w4 ⟨f, T1, s1, r1, hR, rfl, K1⟩
  obtain rfl : f = 0 := by rw [hR.fe]; exact HR0.out
  obtain ⟨-, -, -, -, -, hT1, -, -⟩ := hR.yes rfl
  have G1 := Lib.hid hR.G
  obtain ⟨N, hN⟩ : ∃ N, (if e ≤ c then e else c) = N := ⟨_, rfl⟩
  have hN2 : (if c < e then c else e) = N := by rw [← hN]; split <;> split <;> omega
  have HN := Lib.hid (show N = min e c by rw [← hN]; split <;> omega)
  have N0 : 1 ≤ N ∧ N ≤ 65535 := by have := HN.out; omega
  have J1 : JS 0 N c d e (T1 0) := by
    rw [hT1]
    show JS 0 N c d e (updK (fun _ => tk0 ⟨p, c, r, d⟩) 0 (relT (tk0 ⟨p, c, r, d⟩) 0 e) 0)
    rw [updK_self]
    exact ⟨rfl, rfl, rfl, by show (0 : Int) + d = d; omega, (decide_eq_true (show ((0 : Nat) : Int) < N by omega)).symm⟩
  have J1 := Lib.hid J1
  have K1' := K1.comm
  obtain ⟨k0, k1, k2, k3⟩ := (K1'.blk 0 rfl).four4
  have K1 := Lib.hid K1
  clear RC HR0 hR hT1 K1'
  go_wp2_with fail
  go_loopw [8, 9, 10, 11] (fun x8 x9 x10 x11 wr => ∃ (k : Nat) (T : Nat → CTk) (V : Nat → Sv) (s : QS) (h : Nat → Int) (rr b : Nat → Nat → Bool), x8 = .int .u64 ((k : Int) + 1) ∧ (k : Int) ≤ N ∧ JS k N c d e (T 0) ∧ Gh 1 0 (fun _ => ⟨p, c, r, d⟩) awS k T V s h rr b ∧
    St w None wr (CpuL ⟨pc, pq, pA, pk, 1, pE, pe, 0⟩ T V (k : Int) s ++ [BlkR g 52 (Wk.cells ⟨p, c, r, d⟩), BlkR g3 52 (Wk.cells ⟨p, c, r, d⟩)])) (fun x _ _ _ _ => N.toNat + 2 - (intOf x).toNat)
  case atStart => exact ⟨0, _, _, _, _, _, _, rfl, by omega, J1.out, G1.out, K1.out⟩
  case round =>
  clear J1 G1 K1 k0 k1 k2 k3
  obtain ⟨k, T, V, s, h, rr, b, rfl, hk, hJ, hG, hK⟩ := hrel
  have HJ := Lib.hid hJ
  have TC := Lib.hid (gTick (p := ⟨pc, pq, pA, pk, 1, pE, pe, 0⟩) hG hK (by omega))
  have JC := Lib.hid (cJob_c (id := 0) hK)
  have HG := Lib.hid hG
  have K0 := Lib.hid hK
  by_cases hlt : (k : Int) < N
  · have z2 : decide ((k : Int) + 1 ≤ N) = true := decide_eq_true (by omega)
    obtain ⟨j1, j2, j3, j4, j5⟩ := hJ
    have hth : (T 0).there = true := by rw [j5]; exact decide_eq_true hlt
    have HTH := Lib.hid hth
    have HD := Lib.hid (show (k : Int) + 1 = e ∧ doneL (T 0) 0 = [0] ∧ cutL (T 0) 0 = [] ∨ ((k : Int) + 1 ≠ e ∧ (k : Int) + 1 = c ∧ doneL (T 0) 0 = [] ∧ cutL (T 0) 0 = [0]) ∨ ((k : Int) + 1 ≠ e ∧ (k : Int) + 1 ≠ c ∧ doneL (T 0) 0 = [] ∧ cutL (T 0) 0 = []) from by
      unfold doneL cutL
      rw [j1, j2, j3]
      by_cases a : (k : Int) + 1 = e
      · exact Or.inl ⟨a, if_pos a, if_neg fun h => h.1 a⟩
      · by_cases b : (k : Int) + 1 = c
        · exact Or.inr (Or.inl ⟨a, b, if_neg a, if_pos ⟨a, b⟩⟩)
        · exact Or.inr (Or.inr ⟨a, b, if_neg a, if_neg fun h => b h.2⟩))
    clear j1 j2 j3 j4 j5 hth hG hK JC K0
    go_wp2_with fail
    refine TC.out.mono ?_
    rintro e5 w5 ⟨who, ld, lc, T', V', s', D, cd, C, cc, M, cm, nd, nc, nm, hP, hG2, hnd, hnc, hnm, rfl, hK2⟩
    obtain ⟨-, rfl, hT', rfl, rfl⟩ := tick_one HG.out hP (fun j hj => absurd hj (by omega)) HTH.out
    have JS2 := Lib.hid (show JS (k + 1) N c d e (T' 0) by rw [hT', updK_self]; exact HJ.out.step HN.out hlt)
    obtain rfl : nm = 0 := by
      rw [← hnm, misL_one T' _ fun h1 h2 => ?_]; rfl
      obtain ⟨-, -, -, j4, j5⟩ := JS2.out
      rw [j5] at h1
      have := of_decide_eq_true h1
      rw [j4] at h2
      have := HN.out
      omega
    have G2 := Lib.hid hG2
    have K3 := hK2.box 39 #[.int .i64 0, .slice D nd cd, .slice C nc cc, .slice M 0 cm]
    obtain ⟨g5, hg5⟩ : ∃ g, w5.heap.size = g := ⟨_, rfl⟩
    rw [hg5] at K3
    obtain ⟨a0, a1, a2, a3⟩ := (K3.comm.blk 0 rfl).four4
    have K4 := K3.left.comm
    obtain ⟨b0, b1, b2, b3⟩ := (K4.blk 0 rfl).four4
    have K2 := Lib.hid K3.left
    have y9 : IntKind.u64.wrap ((k : Int) + 1 + 1) = (k : Int) + 1 + 1 := IntWalk.u64_in _ ⟨by omega, by omega⟩
    clear TC hP hG2 hnm hK2 K3 K4 hT' HTH
    have hcs := HD.out
    have hNN := HN.out
    clear HD
    rcases hcs with ⟨q1, q2, q3⟩ | ⟨q1, q2, q3, q4⟩ | ⟨q1, q2, q3, q4⟩
    · rw [q2] at hnd
      rw [q3] at hnc
      obtain rfl : nd = 1 := hnd.symm
      obtain rfl : nc = 0 := hnc.symm
      have y1 : decide ((k : Int) + 1 < N) = false := decide_eq_false (by omega)
      have y2 : ((k : Int) + 1 == N) = true := beq_iff_eq.2 (by omega)
      have y3 : decide (e ≤ c) = true := decide_eq_true (by omega)
      clear q1 q2 q3 hnd hnc hNN
      go_wp2_with fail
      go_roundw
      case rel => exact ⟨k + 1, _, _, _, _, _, _, by go_num, by omega, JS2.out, G2.out, K2.out⟩
      case measure => simp [intOf]; omega
    · rw [q3] at hnd
      rw [q4] at hnc
      obtain rfl : nd = 0 := hnd.symm
      obtain rfl : nc = 1 := hnc.symm
      have y1 : decide ((k : Int) + 1 < N) = false := decide_eq_false (by omega)
      have y2 : ((k : Int) + 1 == N) = true := beq_iff_eq.2 (by omega)
      have y3 : decide (e ≤ c) = false := decide_eq_false (by omega)
      clear q1 q2 q3 q4 hnd hnc hNN
      go_wp2_with fail
      go_roundw
      case rel => exact ⟨k + 1, _, _, _, _, _, _, by go_num, by omega, JS2.out, G2.out, K2.out⟩
      case measure => simp [intOf]; omega
    · rw [q3] at hnd
      rw [q4] at hnc
      obtain rfl : nd = 0 := hnd.symm
      obtain rfl : nc = 0 := hnc.symm
      have y1 : decide ((k : Int) + 1 < N) = true := decide_eq_true (by omega)
      have y2 : ((k : Int) + 1 == N) = false := beq_eq_false_iff_ne.2 (by omega)
      clear q1 q2 q3 q4 hnd hnc hNN
      go_wp2_with fail
      go_roundw
      case rel => exact ⟨k + 1, _, _, _, _, _, _, by go_num, by omega, JS2.out, G2.out, K2.out⟩
      case measure => simp [intOf]; omega
  · obtain rfl : (k : Int) = N := by omega
    have z2 : decide ((k : Int) + 1 ≤ (k : Int)) = false := decide_eq_false (by omega)
    have z2' : decide (k + 1 ≤ k) = false := decide_eq_false (by omega)
    obtain ⟨j1, j2, j3, j4, j5⟩ := hJ
    have hth : (T 0).there = false := by rw [j5]; exact decide_eq_false (by omega)
    have HTH := Lib.hid hth
    have ej : jobA 1 T 0 = (0, 0, false) := jobA_no (j := 0) hth
    rw [ej] at JC
    clear j1 j2 j3 j4 j5 hth hG hK TC ej hlt
    go_wp2_with fail
    refine JC.out.mono ?_
    rintro e5 w5 ⟨rfl, hK⟩
    have TC := Lib.hid (gTick (p := ⟨pc, pq, pA, pk, 1, pE, pe, 0⟩) HG.out hK (by omega))
    clear JC hK K0
    go_wp2_with fail
    refine TC.out.mono ?_
    rintro e6 w6 ⟨who, ld, lc, T', V', s', D, cd, C, cc, M, cm, nd, nc, nm, hP, hG2, hnd, hnc, hnm, rfl, hK2⟩
    obtain ⟨-, rfl, -⟩ := tick_none HG.out hP (fun j hj => absurd hj (by omega)) (fun j hj => by
      obtain rfl : j = 0 := by omega
      exact HTH.out)
    have K3 := hK2.box 39 #[.int .i64 (-1), .slice D nd cd, .slice C nc cc, .slice M nm cm]
    obtain ⟨g5, hg5⟩ : ∃ g, w6.heap.size = g := ⟨_, rfl⟩
    rw [hg5] at K3
    obtain ⟨a0, a1, a2, a3⟩ := (K3.comm.blk 0 rfl).four4
    rw [List.append_assoc] at K3
    obtain ⟨b0, b1, b2, b3⟩ := (K3.comm.blk 0 rfl).four4
    obtain ⟨w7, hw7⟩ : ∃ w7, w6.alloc (.cells #[.int .i64 (-1), .slice D nd cd, .slice C nc cc, .slice M nm cm] 39) = w7 := ⟨_, rfl⟩
    rw [hw7] at K3 a0 a1 a2 a3 b0 b1 b2 b3
    have s8 := K3.box 52 (Wk.cells ⟨p, c, r, d⟩)
    obtain ⟨g8, hg8⟩ : ∃ g, w7.heap.size = g := ⟨_, rfl⟩
    rw [hg8] at s8
    have MC := Lib.hid (rmay17_c (cap := 1) (capB := 0) (blk_ts1 (T := fun _ => (⟨p, c, r, d⟩ : Wk)) (a := ⟨p, c, r, d⟩) (s8.comm.blk 0 rfl) rfl) (ls_none _ awS) (ltyped_none awS) (by unfold maxLen; omega) (by unfold maxLen; omega) true (decide_eq_true ⟨HTOK.out, lok_none awS⟩).symm)
    have S8 := Lib.hid s8
    clear TC hP hG2 hnd hnc hnm hK2 K3 s8
    go_wp2_with fail
    refine MC.out.mono ?_
    rintro e9 w9 ⟨rfl, hb9⟩
    have BB := (S8.out.stay hb9).below
    clear hb9 MC
    go_wp2_with fail
    go_ret
    exact ⟨rfl, by rw [hg] at BB ⊢; exact BB⟩

set_option maxRecDepth 100000 in
theorem lifted (os : Os) (started : os.Started) (H : Type) (enc : TypeId × Value → H) :
    ReturnsInHanded {} Try.checked os 5 .any (Rows.cpuCutsSpec.pre6 enc Try.prog Try.f5 Rows.cpuCutsRow.domain false) (Rows.cpuCutsSpec.post enc Try.prog Try.f5 false true false false) := by
  refine law_lifted (C := Try.checked) (tb := 4) own started (by kernel_rfl) Try.func5
    (ChangeSpec.witness6 (enc := enc) (C := Try.checked) false ⟨#[], #[.agg #[.int .i64 0, .int .u64 0, .int .u64 0, .int .u64 0], .int .u16 0], []⟩ 8 (by kernel_rfl) (by kernel_rfl) (by kernel_rfl) (by kernel_rfl)) laid (by kernel_rfl) (by kernel_rfl) Try.underlying4 rfl ?_
  intro W base args ds ps hval0 hA0 hlt
  have hval : ∀ (j : Nat) t v, Try.f5.params[j]? = some t → args[j]? = some v → Value.okWide Try.prog W .any base t v := hval0
  have hA : DataW.TrodAll enc Try.prog W 0 (fun _ => true) true Try.f5.params.toList args.toList ds ps := hA0
  clear hA0 hval0
  rw [Try.params5] at hA hval
  obtain ⟨v0, vs0, d0, ds0, p0, q0, hargs, rfl, rfl, h0, r0⟩ := trodAll_cons hA
  obtain ⟨v1, vs1, d1, ds1, p1, q1, rfl, rfl, rfl, h1, r1⟩ := trodAll_cons r0
  obtain ⟨rfl, rfl, rfl⟩ := trodAll_nil r1
  obtain rfl : args = #[v0, v1] := by cases args; simp_all
  obtain ⟨cs0, rfl, sz0, ok0⟩ := open_flat (ts := [3, 31, 31, 31]) (Or.inl ⟨_, Try.underlying52⟩) (by kernel_rfl) (by kernel_rfl) (hval 0 52 v0 rfl rfl)
  obtain ⟨c0_0, c0_1, c0_2, c0_3, rfl⟩ := size4 sz0
  obtain ⟨a0_0, rfl, w0_0⟩ := cell_int Try.underlying3 (ok0 0 _ _ rfl rfl)
  obtain ⟨a0_1, rfl, w0_1⟩ := cell_int Try.underlying31 (ok0 1 _ _ rfl rfl)
  obtain ⟨a0_2, rfl, w0_2⟩ := cell_int Try.underlying31 (ok0 2 _ _ rfl rfl)
  obtain ⟨a0_3, rfl, w0_3⟩ := cell_int Try.underlying31 (ok0 3 _ _ rfl rfl)
  obtain ⟨a1, rfl, rfl, rfl, w1⟩ := open_int Try.underlying53 (hval 1 53 v1 rfl rfl) h1
  refine ⟨⟨rfl, rfl, rfl⟩, ?_⟩
  have b := bounds_u16 w1
  exact walk a0_0 a0_1 a0_2 a0_3 a1 W b

theorem over : Rows.cpuCutsRow.holds Try.pinned (OpenSpec.ofChange Rows.cpuCutsSpec) :=
  OpenClaim.holds_of_wide 5 Try.f5 rfl rfl rfl rfl rfl rfl rfl ⟨rfl, rfl, rfl, rfl, rfl⟩ rfl rfl rfl rfl rfl (by kernel_rfl) Try.func5 (by kernel_rfl)
    (of_decide_eq_true (by kernel_rfl)) (by unfold Func.isWrapper; first | (rw [if_pos (by decide +kernel)]; kernel_rfl) | (rw [if_neg (by decide +kernel)]; exact ⟨rfl, rfl⟩))
    (fun os started H enc _ => lifted os started H enc)
theorem proved : Rows.CpuCutsSaid := over
#print axioms proved
end Go.Proofs.Ytdnonhhphkmlmaa.cpuCuts
