/-
  For every task, all loads and every row of bytes TopTaken answers true, and changes nothing: in any span of ticks in which the task's job is there, those in which a server runs are no more than what loads take of it at most, which hangs on the loads alone. No condition.
-/
import Derived.Test.YtdemhhmceiaohaaRows
import Derived.Test.YtdemhhmceiaohaaFr
import Derived.Test.YtdemhhmceiaohaaTopR
import Derived.Test.YtdemhhmceiaohaaCpuX
import Derived.Test.YtdemhhmceiaohaaOpen
import Derived.BigRegion
import Derived.LoopTactic
namespace Go.Proofs.Ytdemhhmceiaohaa.topTaken
open Go.ChangeShapes Go.WideShapes Go.ChangeAt Go.RowKit
set_option linter.unusedVariables false
theorem own : ownKnob Try.prog.godebug = none := by kernel_rfl
theorem laid : laidOutB Try.prog = true := by kernel_rfl
set_option maxRecDepth 100000
set_option maxHeartbeats 4000000
theorem cntL_under {g : Nat → Bool} {F : Nat → Nat → Bool} {m a : Nat} (h : ∀ t, g t = true → ∃ j, j < m ∧ F j t = true) : ∀ n, cntL g a n ≤ sumN (fun j => cntL (F j) a n) m
  | 0 => by rw [show cntL g a 0 = 0 from rfl]; exact Nat.zero_le _
  | n + 1 => by
    have h1 := cntL_under (a := a) h n
    show cntL g a n + (g (a + n)).toNat ≤ sumN (fun j => cntL (F j) a n + (F j (a + n)).toNat) m
    rw [sumN_add]
    cases hg : g (a + n) with
    | false => simp; omega
    | true =>
      obtain ⟨j, hj, hF⟩ := h _ hg
      have h2 : 1 ≤ sumN (fun j => (F j (a + n)).toNat) m := by
        have h3 := sumN_lt (g := fun _ => 0) (h := fun j => (F j (a + n)).toNat) (k := m) (fun _ _ => Nat.zero_le _) ⟨j, hj, by show 0 < (F j (a + n)).toNat; rw [hF]; decide⟩
        rw [sumN_zero] at h3; omega
      simp; omega
/-- How many up to each time. -/
def takV (g : Nat → Bool) (t i : Nat) : Value := .int .u64 (if i ≤ t then (cntL g 0 i : Nat) else (0 : Nat) : Nat)
theorem takV_old {g : Nat → Bool} {t i : Nat} (b : Bool) (h : i ≤ t) : cntL (also g t b) 0 i = cntL g 0 i := cntL_also_out b (Or.inr (by omega))
theorem takV_new {g : Nat → Bool} {t : Nat} (b : Bool) : cntL (also g t b) 0 (t + 1) = cntL g 0 t + b.toNat := by
  show cntL (also g t b) 0 t + (also g t b (0 + t)).toNat = _
  rw [takV_old b (Nat.le_refl _), Nat.zero_add, also_self]
/-- What is counted is a server's. -/
def Und (m t : Nat) (g : Nat → Bool) (h : Nat → Int) : Prop := (∀ u, t ≤ u → g u = false) ∧ ∀ u, g u = true → ∃ k, k < m ∧ h u = 100 + (k : Int)
theorem Und.step {m t : Nat} {g : Nat → Bool} {h : Nat → Int} (U : Und m t g h) (who : Int) (b : Bool) (hb : b = true → ∃ k, k < m ∧ who = 100 + (k : Int)) : Und m (t + 1) (also g t b) (putH h t who) := by
  refine ⟨fun u hu => by rw [also_ne g _ (by omega)]; exact U.1 u (by omega), fun u hu => ?_⟩
  by_cases e : u = t
  · subst e
    rw [also_self] at hu
    obtain ⟨k, hk, hw⟩ := hb hu
    exact ⟨k, hk, by unfold putH; rw [if_pos rfl]; exact hw⟩
  · rw [also_ne g _ e] at hu
    obtain ⟨k, hk, hw⟩ := U.2 u hu
    exact ⟨k, hk, by unfold putH; rw [if_neg e]; exact hw⟩
theorem Und.bound {m t : Nat} {g : Nat → Bool} {h : Nat → Int} {S : Nat → Ld} {V : Nat → Sv} (U : Und m t g h) (hs : ∀ k, k < m → (∀ s, cntL (hit h (100 + (k : Int))) s (V k).P.toNat ≤ (V k).B.toNat) ∧ asS (V k) (S k) ∧ (S k).ok) (a L : Nat) :
    cntL g a L ≤ min (tkn (ldl S m) L) L := by
  have h1 := cntL_under (F := fun k => hit h (100 + (k : Int))) (m := m) (a := a) (g := g) (fun u hu => by
    obtain ⟨k, hk, hw⟩ := U.2 u hu
    exact ⟨k, hk, decide_eq_true hw⟩) L
  have h2 : sumN (fun k => cntL (hit h (100 + (k : Int))) a L) m ≤ loadN S m L := sumN_le fun k hk => by
    obtain ⟨a1, ⟨e1, e2⟩, o1, o2, o3, o4⟩ := hs k hk
    have := cntL_span (P := (V k).P.toNat) (B := (V k).B.toNat) (by omega) a1 a L
    rw [e1, e2] at this; exact this
  rw [ldl_load]
  have := cntL_le g a L
  omega
theorem walk (p c r d : Int) (E Z : Option Addr) (m ce q cz : Nat) (S : Nat → Ld) (f : Nat → Int) (w : World) (hm : m ≤ maxLen) (hq : q ≤ maxLen) (rdS : Ls w E m S) (ht : LTyped m S) (rdZ : Rd w Z q (fun i => .int .u8 (f i)))
    (hf : ∀ i, 0 ≤ f i ∧ f i ≤ 255) :
    Calls Try.prog 3 #[.agg (Wk.cells ⟨p, c, r, d⟩), .slice E m ce, .slice Z q cz] w fun r' w' => r' = .returned (.bool true) ∧ Below w.heap.size w w' := by
  have s0 := (St.begin w).box 24 (Wk.cells ⟨p, c, r, d⟩)
  obtain ⟨g0, hg0⟩ : ∃ g, w.heap.size = g := ⟨_, rfl⟩
  rw [hg0, List.nil_append] at s0
  have S0' := Lib.hid s0
  have HMS := Lib.hid (fun X (hX : Below w.heap.size w X) => rsmay_c (cap := ce) (rdS.below hX) ht hm (decide (LOK m S)) rfl)
  have HEX := Lib.hid (fun X (hX : Below w.heap.size w X) hS (x : Int) (x0 : 0 ≤ x) (x1 : x ≤ 1073741824) => extra_c (cap := ce) (rdS.below hX) ht hS x x0 x1 _ rfl)
  have RS := Lib.hid rdS
  have RZ := Lib.hid rdZ
  have HF := Lib.hid hf
  have HTY := Lib.hid ht
  clear s0 rdS ht rdZ hf
  unfold maxLen at hm hq
  go_enter Try.func3, Try.ntmps3
  go_wp2_with fail
  refine (runs_any _).mono ?_
  rintro e1 wr ⟨rfl, hb⟩
  have sr := S0'.out.stay hb
  clear hb S0'
  obtain ⟨k0, k1, k2, k3⟩ := (sr.blk 0 rfl).four4
  have SR := Lib.hid sr
  clear sr
  by_cases ha : Wk.ok ⟨p, c, r, d⟩
  case neg =>
    have RA := Lib.hid (fun W => rwmay p c r d W false (decide_eq_false ha).symm)
    clear ha
    go_wp2_with fail
    refine (RA.out _).mono ?_
    rintro e2 w2 ⟨rfl, hb2⟩
    have BB := (SR.out.stay hb2).below
    clear hb2
    go_wp2_with fail
    go_ret
    exact ⟨rfl, by rw [hg0] at BB; first | exact BB | (rw [hg0]; exact BB)⟩
  have RA := Lib.hid (fun W => rwmay p c r d W true (decide_eq_true ha).symm)
  have HA := Lib.hid ha
  obtain ⟨-, o1, o2, o3, o4⟩ := ha
  dsimp only at o1 o2 o3 o4
  go_wp2_with fail
  refine (RA.out _).mono ?_
  rintro e2 w2 ⟨rfl, hb2⟩
  have s2 := SR.out.stay hb2
  clear hb2 SR k0 k1 k2 k3 RA
  obtain ⟨k0, k1, k2, k3⟩ := (s2.blk 0 rfl).four4
  have S2 := Lib.hid s2
  have MS := Lib.hid (HMS.out _ s2.below)
  clear s2 HMS
  go_wp2_with fail
  refine MS.out.mono ?_
  rintro e3 w3 ⟨rfl, hb3⟩
  have S3 := Lib.hid (S2.out.stay hb3)
  obtain ⟨k0, k1, k2, k3⟩ := (S3.out.blk 0 rfl).four4
  clear hb3 S2 MS
  by_cases hS : LOK m S
  case neg =>
    rw [decide_eq_false hS]
    have BB := S3.out.below
    clear hS
    go_wp2_with fail
    go_ret
    exact ⟨rfl, by rw [hg0] at BB; first | exact BB | (rw [hg0]; exact BB)⟩
  rw [decide_eq_true hS]
  have HS := Lib.hid hS
  have m16 := hS.1
  clear hS
  by_cases hm0 : m = 0
  · have z1 : ((m : Int) == 0) = true := beq_iff_eq.2 (by omega)
    have z1' : (m == 0) = true := beq_iff_eq.2 hm0
    have BB := S3.out.below
    go_wp2_with fail
    go_ret
    exact ⟨rfl, by rw [hg0] at BB; first | exact BB | (rw [hg0]; exact BB)⟩
  have z1 : ((m : Int) == 0) = false := beq_eq_false_iff_ne.2 (by omega)
  have z1' : (m == 0) = false := beq_eq_false_iff_ne.2 hm0
  by_cases hq0 : q = 0
  · have z2 : ((q : Int) == 0) = true := beq_iff_eq.2 (by omega)
    have z2' : (q == 0) = true := beq_iff_eq.2 hq0
    have BB := S3.out.below
    go_wp2_with fail
    go_ret
    exact ⟨rfl, by rw [hg0] at BB; first | exact BB | (rw [hg0]; exact BB)⟩
  have z2 : ((q : Int) == 0) = false := beq_eq_false_iff_ne.2 (by omega)
  have z2' : (q == 0) = false := beq_eq_false_iff_ne.2 hq0
  have s4 := S3.out.box 24 (Wk.cells ⟨p, c, r, d⟩)
  obtain ⟨W4, hW4⟩ : ∃ W4, w3.alloc (.cells (Wk.cells ⟨p, c, r, d⟩) 24) = W4 := ⟨_, rfl⟩
  obtain ⟨g4, hg4⟩ : ∃ g, w3.heap.size = g := ⟨_, rfl⟩
  rw [hW4, hg4] at s4
  have TOK1 : TOK 1 (fun _ => (⟨p, c, r, d⟩ : Wk)) := ⟨by omega, fun j _ => HA.out⟩
  have NC := Lib.hid (cNew_c (ca := 1) (ce := ce) (blk_ts1 (T := fun _ => (⟨p, c, r, d⟩ : Wk)) (a := ⟨p, c, r, d⟩) (s4.blk 1 rfl) rfl) (RS.out.below s4.below) TOK1 HS.out HTY.out)
  have HTOK := Lib.hid TOK1
  have S4 := Lib.hid s4
  clear s4 S3 TOK1
  go_wp2_with fail
  refine NC.out.mono ?_
  rintro e5 w5 ⟨P, V5, rfl, en, em, hV, s5⟩
  obtain ⟨pc, pq, pA, pk, pn, pE, pe, pm⟩ := P
  dsimp only at en em
  subst en em
  have G0 := Lib.hid (Gh.anew HTOK.out HS.out hV)
  have s6 := St.cpu S4.out s5
  obtain ⟨iU, hiU, hzU, hsU, hbU⟩ := info3c (P := Try.prog) (t := 22) (z := .int .u64 0) (s := 1) (b := 8) (by kernel_rfl)
  have mU : ∀ W : World, (Instr.makeSlice 35 (.int .i64 301) (.int .i64 301)).run Try.prog W = .ok (.slice (some ⟨W.heap.size, 0, none⟩) 301 301) (W.alloc (.cells (madeCells #[.int .u64 0] 301) 22)) :=
    fun W => run_make_rowN (P := Try.prog) 35 22 iU (.int .u64 0) Try.underlying35 hiU hzU rfl hsU .i64 .i64 301 (by rw [hbU]; omega) (by omega) W
  have s7 := (s6.made_row 22 301 (.int .u64 0))
  obtain ⟨hb, hhb⟩ : ∃ hb, w5.heap.size = hb := ⟨_, rfl⟩
  rw [hhb, List.append_assoc] at s7
  have S8 := Lib.hid (show St w None _ (CpuL ⟨pc, pq, pA, pk, 1, pE, pe, pm⟩ (fun _ => tk0 ⟨p, c, r, d⟩) V5 0 QS.new ++ [BlkR g0 24 (Wk.cells ⟨p, c, r, d⟩), BlkR g4 24 (Wk.cells ⟨p, c, r, d⟩), ArrR hb 22 301 (takV (fun _ => false) 0)]) from
    ((show St w None _ ([BlkR g0 24 (Wk.cells ⟨p, c, r, d⟩), BlkR g4 24 (Wk.cells ⟨p, c, r, d⟩), ArrR hb 22 301 (fun _ => .int .u64 0)] ++ CpuL ⟨pc, pq, pA, pk, 1, pE, pe, pm⟩ (fun _ => tk0 ⟨p, c, r, d⟩) V5 0 QS.new) from s7.comm).arr_like (V' := takV (fun _ => false) 0) 2 rfl (fun j hj => by
      unfold takV
      split
      · rw [cntL_none fun _ _ _ => rfl]; rfl
      · rfl)).comm)
  have U0 := Lib.hid (show Und pm 0 (fun _ => false) (fun _ => -1) from ⟨fun _ _ => rfl, fun u hu => by cases hu⟩)
  clear s6 s7 s5 NC hV hW4 k0 k1 k2 k3 S4
  go_wp2_with fail
  clear mU
  go_loopw [10, 11, 12, 13, 14, 15, 16] (fun x10 x11 x12 x13 x14 x15 x16 wr => ∃ (t : Nat) (T : Nat → CTk) (V : Nat → Sv) (s : QS) (h : Nat → Int) (rr b : Nat → Nat → Bool) (gg : Nat → Bool), x10 = .int .i64 (t : Int) ∧ t ≤ 300 ∧ Gh 1 pm (fun _ => ⟨p, c, r, d⟩) S t T V s h rr b ∧ Und pm t gg h ∧
    St w None wr (CpuL ⟨pc, pq, pA, pk, 1, pE, pe, pm⟩ T V (t : Int) s ++ [BlkR g0 24 (Wk.cells ⟨p, c, r, d⟩), BlkR g4 24 (Wk.cells ⟨p, c, r, d⟩), ArrR hb 22 301 (takV gg t)])) (fun x _ _ _ _ _ _ _ => 300 - (intOf x).toNat)
  case atStart => exact ⟨0, _, _, _, _, _, _, _, rfl, by omega, G0.out, U0.out, S8.out⟩
  case round =>
  clear G0 S8 U0
  obtain ⟨t, T, V, s, h, rr, b, gg, rfl, ht, hG, hU, hK⟩ := hrel
  have HG := Lib.hid hG
  have UU := Lib.hid hU
  have K0 := Lib.hid hK
  clear hG hU hK
  by_cases hlt : t < 300
  case neg =>
    have y0 : decide ((t : Int) < 300) = false := decide_eq_false (by omega)
    have y0' : decide (t < 300) = false := decide_eq_false hlt
    have e300 : t = 300 := by omega
    have HB := Lib.hid (fun a L => UU.out.bound (S := S) (V := V) (fun k hk => ⟨(HG.out.sv k hk).most, HG.out.ss k hk, HG.out.sok k hk⟩) a L)
    have HV := Lib.hid (show ∀ i, i ≤ 300 → takV gg t i = .int .u64 (cntL gg 0 i : Nat) from fun i hi => by unfold takV; rw [if_pos (by omega)])
    clear HG UU hlt ht e300
    go_wp2_with fail
    go_loopw [17, 18] (fun x17 x18 wi => ∃ a : Nat, x17 = .int .i64 (a : Int) ∧ a ≤ 312 ∧ St w None wi (CpuL ⟨pc, pq, pA, pk, 1, pE, pe, pm⟩ T V (t : Int) s ++ [BlkR g0 24 (Wk.cells ⟨p, c, r, d⟩), BlkR g4 24 (Wk.cells ⟨p, c, r, d⟩), ArrR hb 22 301 (takV gg t)])) (fun x _ _ => 320 - (intOf x).toNat)
    case atStart => exact ⟨0, rfl, by omega, K0.out⟩
    case round =>
    clear K0
    obtain ⟨a, rfl, ha, hK⟩ := hrel
    have K0 := Lib.hid hK
    clear hK
    have y9 : IntKind.i64.wrap ((a : Int) + 13) = (a : Int) + 13 := IntWalk.i64_in _ ⟨by omega, by omega⟩
    by_cases ha3 : a < 300
    case neg =>
      have y1 : decide ((a : Int) < 300) = false := decide_eq_false (by omega)
      have y1' : decide (a < 300) = false := decide_eq_false ha3
      have BB := K0.out.below
      go_wp2_with fail
      go_ret
      exact ⟨rfl, by rw [hg0] at BB; first | exact BB | (rw [hg0]; exact BB)⟩
    have y1 : decide ((a : Int) < 300) = true := decide_eq_true (by omega)
    have y1' : decide (a < 300) = true := decide_eq_true ha3
    go_wp2_with fail
    go_loopw [18] (fun x18 wi => ∃ e : Nat, x18 = .int .i64 (e : Int) ∧ a ≤ e ∧ e ≤ 317 ∧ St w None wi (CpuL ⟨pc, pq, pA, pk, 1, pE, pe, pm⟩ T V (t : Int) s ++ [BlkR g0 24 (Wk.cells ⟨p, c, r, d⟩), BlkR g4 24 (Wk.cells ⟨p, c, r, d⟩), ArrR hb 22 301 (takV gg t)])) (fun x _ => 320 - (intOf x).toNat)
    case atStart => exact ⟨a, rfl, by omega, by omega, K0.out⟩
    case round =>
    clear K0
    obtain ⟨e, rfl, hae, he, hK⟩ := hrel
    have K0 := Lib.hid hK
    by_cases he3 : e ≤ 300
    case neg =>
      have y2 : decide ((e : Int) ≤ 300) = false := decide_eq_false (by omega)
      have y2' : decide (e ≤ 300) = false := decide_eq_false he3
      clear hK
      go_wp2_with fail
      go_roundw
      case rel => exact ⟨a + 13, by go_num, by omega, K0.out⟩
      case measure => simp [intOf]; omega
    have y2 : decide ((e : Int) ≤ 300) = true := decide_eq_true (by omega)
    have y2' : decide (e ≤ 300) = true := decide_eq_true he3
    have y8 : IntKind.i64.wrap ((e : Int) + 17) = (e : Int) + 17 := IntWalk.i64_in _ ⟨by omega, by omega⟩
    have hcut := cntL_add gg 0 a (e - a)
    rw [show a + (e - a) = e by omega, Nat.zero_add] at hcut
    have hbd := HB.out a (e - a)
    obtain ⟨Ne, hNe⟩ : ∃ N : Int, ((cntL gg 0 e : Nat) : Int) = N := ⟨_, rfl⟩
    obtain ⟨Na, hNa⟩ : ∃ N : Int, ((cntL gg 0 a : Nat) : Int) = N := ⟨_, rfl⟩
    have hle := cntL_le gg 0 e
    obtain ⟨D, hD⟩ : ∃ D : Int, (e : Int) - (a : Int) = D := ⟨_, rfl⟩
    have HD := Lib.hid (show D = ((e - a : Nat) : Int) by omega)
    obtain ⟨X, hX⟩ : ∃ X : Int, ((min (tkn (ldl S pm) D.toNat) D.toNat : Nat) : Int) = X := ⟨_, rfl⟩
    have EX := Lib.hid (fun W (hW : Below wr.heap.size wr W) => HEX.out W (below_then hK.below hW) HS.out D (by omega) (by omega))
    rw [hX] at EX
    have eD : D.toNat = e - a := by omega
    rw [eD] at hX
    have y3 : decide (X < Ne - Na) = false := decide_eq_false (by omega)
    have y4 : IntKind.u64.wrap (Ne - Na) = Ne - Na := IntWalk.u64_in _ ⟨by omega, by omega⟩
    have y5 : IntKind.i64.wrap D = D := IntWalk.i64_in _ ⟨by omega, by omega⟩
    have y6 : IntKind.u64.wrap D = D := IntWalk.u64_in _ ⟨by omega, by omega⟩
    have CA := Lib.hid (fun (x : Within (fun W => Below wr.heap.size wr W)) (i : Nat) (hi : i < 301) => (hK.stay x.h).comm.arr_cell 2 rfl hi)
    haveI : Nonempty (Within (fun W => Below wr.heap.size wr W)) := ⟨⟨_, Below.refl _ _⟩⟩
    have v0 : ∀ x : Within (fun W => Below wr.heap.size wr W), x.w.cell? ⟨hb, e, none⟩ = some (.int .u64 Ne) := fun x => by
      have h := CA.out x e (by omega)
      rw [HV.out e he3, hNe] at h; exact h
    have v1 : ∀ x : Within (fun W => Below wr.heap.size wr W), x.w.cell? ⟨hb, a, none⟩ = some (.int .u64 Na) := fun x => by
      have h := CA.out x a (by omega)
      rw [HV.out a (by omega), hNa] at h; exact h
    have u0 : (0 : Int) ≤ (e : Int) := by omega
    have u1 : (e : Int) < 301 := by omega
    have u2 : (0 : Int) ≤ (a : Int) := by omega
    have u3 : (a : Int) < 301 := by omega
    clear hK hcut hbd hNe hNa hX eD hle
    go_wp2_with fail
    refine wp_region_in (fun W => Below wr.heap.size wr W) (by kernel_rfl) (by kernel_rfl) (Below.refl _ _).drew ?_
    repeat (go_big_quiet_step ((go_at_call 13; exact in_call (p := (fun W => Below wr.heap.size wr W)) ((EX.out _ (Within.h (p := (fun W => Below wr.heap.size wr W)) _)).mono fun e w' h => ⟨h.1, below_then (Within.h (p := (fun W => Below wr.heap.size wr W)) _) h.2⟩))))
    refine wpQuiet_nil ?_
    rintro _ ⟨⟨wq, sq⟩, rfl⟩
    clear v0 v1
    have K1 := Lib.hid (K0.out.stay sq)
    go_wp2_with fail
    go_roundw
    case rel => exact ⟨e + 17, by go_num, by omega, by omega, K1.out⟩
    case measure => simp [intOf]; omega
  have y0 : decide ((t : Int) < 300) = true := decide_eq_true (by omega)
  have y0' : decide (t < 300) = true := decide_eq_true hlt
  obtain ⟨d7, hd7⟩ : ∃ d7 : Nat, (t : Int) % 7 = (d7 : Int) := ⟨t % 7, by omega⟩
  have m7 : Int.tmod (t : Int) 7 = (d7 : Int) := by rw [Int.tmod_eq_emod_of_nonneg (by omega)]; exact hd7
  by_cases h7 : d7 = 0
  · subst h7
    obtain ⟨b0, b1, b2, b3⟩ := (K0.out.comm.blk 0 rfl).four4
    have RC := Lib.hid (gRelease (p := ⟨pc, pq, pA, pk, 1, pE, pe, pm⟩) (id := 0) (dem := c) HG.out K0.out (by omega) (by omega))
    dsimp only at RC
    clear K0
    go_wp2_with fail
    refine RC.out.mono ?_
    rintro e6 w6 ⟨f2, T2, s2, r2, hR, rfl, hK2⟩
    have G2 := Lib.hid hR.G
    have K2 := Lib.hid hK2
    clear RC hR hK2 HG b0 b1 b2 b3
    obtain ⟨sb, of2, rfl, hsb, hcell⟩ := RZ.out (by omega)
    have hkn : t % q < q := Nat.mod_lt _ (by omega)
    have hnp : 0 < q := by omega
    have hmp : 0 < pm := by omega
    have hy := (K2.out.below.cell (p := ⟨sb, of2 + t % q, none⟩) hsb).trans (hcell _ hkn)
    dsimp only at hy
    obtain ⟨f0, f1⟩ := HF.out (t % q)
    generalize f (t % q) = fv at *
    have mw : IntKind.i64.wrap fv = fv := IntWalk.i64_in _ ⟨by omega, by omega⟩
    have mw2 : IntKind.u64.wrap fv = fv := IntWalk.u64_in _ ⟨by omega, by omega⟩
    obtain ⟨id, hid⟩ : ∃ id : Nat, fv % (pm : Int) = (id : Int) := ⟨(fv % (pm : Int)).toNat, by have := Int.emod_nonneg fv (show (pm : Int) ≠ 0 by omega); omega⟩
    have m1 : Int.tmod fv (pm : Int) = (id : Int) := by rw [Int.tmod_eq_emod_of_nonneg f0]; exact hid
    obtain ⟨d9, hd9⟩ : ∃ d9 : Nat, fv % 9 = (d9 : Int) := ⟨(fv % 9).toNat, by omega⟩
    have m2 : Int.tmod fv 9 = (d9 : Int) := by rw [Int.tmod_eq_emod_of_nonneg f0]; exact hd9
    have WK := Lib.hid (gWake (p := ⟨pc, pq, pA, pk, 1, pE, pe, pm⟩) (id := (id : Int)) (dem := (d9 : Int)) G2.out K2.out (by omega))
    dsimp only at WK
    generalize wakeA pm (id : Int) = wa at WK
    generalize wakeV pm V (id : Int) (d9 : Int) = V2 at WK
    clear hcell G2 K2
    go_wp2_with fail
    refine WK.out.mono ?_
    rintro e7 w7 ⟨hG3, rfl, hK3⟩
    have G3 := Lib.hid hG3
    have JC := Lib.hid (cJob_c (id := 0) hK3)
    dsimp only at JC
    generalize (jobA 1 T2 0).1 = ja at JC
    generalize (jobA 1 T2 0).2.1 = jb at JC
    generalize (jobA 1 T2 0).2.2 = th at JC
    clear WK hG3 hK3
    go_wp2_with fail
    refine JC.out.mono ?_
    rintro e8 w8 ⟨rfl, hK4⟩
    have TC := Lib.hid (gTick (p := ⟨pc, pq, pA, pk, 1, pE, pe, pm⟩) G3.out hK4 (by omega))
    clear JC hK4
    go_wp2_with fail
    refine TC.out.mono ?_
    rintro e9 w9 ⟨who, ld, lc, T', V', s', D, cd, C, cc, M, cm, nd, nc, nm, hP, hG4, -, -, -, rfl, hK5⟩
    have hwho : (∃ k, k < pm ∧ who = 100 + (k : Int)) ∨ who < 100 := by
      rcases hP with ⟨k, hk, _, _, hw, _⟩ | ⟨_, _, ⟨x, l, _, hx, _, hw, _⟩ | ⟨_, hw, _⟩⟩
      · exact Or.inl ⟨k, hk, hw⟩
      · exact Or.inr (by omega)
      · exact Or.inr (by omega)
    have G4 := Lib.hid hG4
    have K5 := hK5.box 41 #[.int .i64 who, .slice D nd cd, .slice C nc cc, .slice M nm cm]
    obtain ⟨g7, hg7⟩ : ∃ g, w9.heap.size = g := ⟨_, rfl⟩
    rw [hg7, List.append_assoc] at K5
    have K6 := K5.comm
    obtain ⟨a0, a1, a2, a3⟩ := (K6.blk 3 rfl).four4
    have ht1 : t < 301 := by omega
    have ht2 : t + 1 < 301 := by omega
    have n0 := K6.arr_cell 2 rfl ht1
    have n1 := K6.arr_cell 2 rfl ht2
    have n2 := K6.arr_frozen 2 rfl (t + 1)
    unfold takV at n0 n1
    rw [if_pos (Nat.le_refl t)] at n0
    rw [if_neg (show ¬ t + 1 ≤ t by omega)] at n1
    obtain ⟨N, hN⟩ : ∃ N, cntL gg 0 t = N := ⟨_, rfl⟩
    have hNl : N ≤ 300 := by have := cntL_le gg 0 t; omega
    rw [hN] at n0
    have HN := Lib.hid hN
    have K7 := K6.arr_set 2 rfl ht2 (.int .u64 (N : Int))
    obtain ⟨c0, c1, c2, c3⟩ := (K7.blk 3 rfl).four4
    have q9 : IntKind.i64.wrap ((t : Int) + 1) = (t : Int) + 1 := IntWalk.i64_in _ ⟨by omega, by omega⟩
    have u0 : (0 : Int) ≤ (t : Int) := by omega
    have u1 : (t : Int) < 301 := by omega
    have u2 : (0 : Int) ≤ (t : Int) + 1 := by omega
    have u3 : (t : Int) + 1 < 301 := by omega
    have END := Lib.hid (fun (b : Bool) (x : Int) (W : World) (K : St w None W ([BlkR g0 24 (Wk.cells ⟨p, c, r, d⟩), BlkR g4 24 (Wk.cells ⟨p, c, r, d⟩), ArrR hb 22 301 (fun j => if j = t + 1 then .int .u64 x else takV gg t j), BlkR g7 41 #[.int .i64 who, .slice D nd cd, .slice C nc cc, .slice M nm cm]] ++ CpuL ⟨pc, pq, pA, pk, 1, pE, pe, pm⟩ T' V' ((t + 1 : Nat) : Int) s')) (hx : x = (N : Int) + b.toNat) =>
      show St w None W (CpuL ⟨pc, pq, pA, pk, 1, pE, pe, pm⟩ T' V' ((t + 1 : Nat) : Int) s' ++ [BlkR g0 24 (Wk.cells ⟨p, c, r, d⟩), BlkR g4 24 (Wk.cells ⟨p, c, r, d⟩), ArrR hb 22 301 (takV (also gg t b) (t + 1))]) from by
        have K8 := ((K.arr_like (V' := takV (also gg t b) (t + 1)) 2 rfl (fun j hj => by
          show takV (also gg t b) (t + 1) j = if j = t + 1 then .int .u64 x else takV gg t j
          unfold takV
          by_cases e : j = t + 1
          · subst e
            rw [if_pos rfl, if_pos (Nat.le_refl _), takV_new, HN.out, hx]
            congr 1
          · rw [if_neg e]
            by_cases e2 : j ≤ t
            · rw [if_pos e2, if_pos (by omega), takV_old b e2]
            · rw [if_neg e2, if_neg (by omega)])).drop 3 (by simp))
        exact K8.comm)
    clear TC hP hG4 hK5 K5 K6 hN G3
    rcases hwho with ⟨k, hk, rfl⟩ | hwho
    · have q0 : decide (100 ≤ 100 + (k : Int)) = true := decide_eq_true (by omega)
      cases th with
      | true =>
        have HU := Lib.hid (UU.out.step (100 + (k : Int)) true fun _ => ⟨k, hk, rfl⟩)
        have d1 := K7.arr_cell 2 rfl ht2
        rw [if_pos rfl] at d1
        have d2 := K7.arr_frozen 2 rfl (t + 1)
        have q5 : IntKind.u64.wrap ((N : Int) + 1) = (N : Int) + 1 := IntWalk.u64_in _ ⟨by omega, by omega⟩
        have K8 := K7.arr_set 2 rfl ht2 (.int .u64 ((N : Int) + 1))
        have K9 := Lib.hid (END.out true ((N : Int) + 1) _ (K8.arr_like (V' := fun j => if j = t + 1 then .int .u64 ((N : Int) + 1) else takV gg t j) 2 rfl (fun j hj => by by_cases e : j = t + 1 <;> simp [e])) rfl)
        clear K7 K8 END
        go_wp2_with fail
        go_roundw
        case rel => exact ⟨t + 1, _, _, _, _, _, _, _, by go_num, by omega, G4.out, HU.out, K9.out⟩
        case measure => simp [intOf]; omega
      | false =>
        have HU := Lib.hid (UU.out.step (100 + (k : Int)) false fun h => by cases h)
        have K9 := Lib.hid (END.out false (N : Int) _ K7 (by simp))
        clear K7 END
        go_wp2_with fail
        go_roundw
        case rel => exact ⟨t + 1, _, _, _, _, _, _, _, by go_num, by omega, G4.out, HU.out, K9.out⟩
        case measure => simp [intOf]; omega
    · have q0 : decide (100 ≤ who) = false := decide_eq_false (by omega)
      have HU := Lib.hid (UU.out.step who false fun h => by cases h)
      have K9 := Lib.hid (END.out false (N : Int) _ K7 (by simp))
      clear K7 END
      go_wp2_with fail
      go_roundw
      case rel => exact ⟨t + 1, _, _, _, _, _, _, _, by go_num, by omega, G4.out, HU.out, K9.out⟩
      case measure => simp [intOf]; omega
  · have z7 : ((d7 : Int) == 0) = false := beq_eq_false_iff_ne.2 (by omega)
    have z7' : (d7 == 0) = false := beq_eq_false_iff_ne.2 h7
    obtain ⟨T2, hT2⟩ : ∃ T2, T2 = T := ⟨_, rfl⟩
    have G2 := Lib.hid (show Gh 1 pm (fun _ => ⟨p, c, r, d⟩) S t T2 V s h rr b by rw [hT2]; exact HG.out)
    have K2 := Lib.hid (show St w None wr (CpuL ⟨pc, pq, pA, pk, 1, pE, pe, pm⟩ T2 V (t : Int) s ++ [BlkR g0 24 (Wk.cells ⟨p, c, r, d⟩), BlkR g4 24 (Wk.cells ⟨p, c, r, d⟩), ArrR hb 22 301 (takV gg t)]) by rw [hT2]; exact K0.out)
    clear HG K0 hT2
    obtain ⟨sb, of2, rfl, hsb, hcell⟩ := RZ.out (by omega)
    have hkn : t % q < q := Nat.mod_lt _ (by omega)
    have hnp : 0 < q := by omega
    have hmp : 0 < pm := by omega
    have hy := (K2.out.below.cell (p := ⟨sb, of2 + t % q, none⟩) hsb).trans (hcell _ hkn)
    dsimp only at hy
    obtain ⟨f0, f1⟩ := HF.out (t % q)
    generalize f (t % q) = fv at *
    have mw : IntKind.i64.wrap fv = fv := IntWalk.i64_in _ ⟨by omega, by omega⟩
    have mw2 : IntKind.u64.wrap fv = fv := IntWalk.u64_in _ ⟨by omega, by omega⟩
    obtain ⟨id, hid⟩ : ∃ id : Nat, fv % (pm : Int) = (id : Int) := ⟨(fv % (pm : Int)).toNat, by have := Int.emod_nonneg fv (show (pm : Int) ≠ 0 by omega); omega⟩
    have m1 : Int.tmod fv (pm : Int) = (id : Int) := by rw [Int.tmod_eq_emod_of_nonneg f0]; exact hid
    obtain ⟨d9, hd9⟩ : ∃ d9 : Nat, fv % 9 = (d9 : Int) := ⟨(fv % 9).toNat, by omega⟩
    have m2 : Int.tmod fv 9 = (d9 : Int) := by rw [Int.tmod_eq_emod_of_nonneg f0]; exact hd9
    have WK := Lib.hid (gWake (p := ⟨pc, pq, pA, pk, 1, pE, pe, pm⟩) (id := (id : Int)) (dem := (d9 : Int)) G2.out K2.out (by omega))
    dsimp only at WK
    generalize wakeA pm (id : Int) = wa at WK
    generalize wakeV pm V (id : Int) (d9 : Int) = V2 at WK
    clear hcell G2 K2
    go_wp2_with fail
    refine WK.out.mono ?_
    rintro e7 w7 ⟨hG3, rfl, hK3⟩
    have G3 := Lib.hid hG3
    have JC := Lib.hid (cJob_c (id := 0) hK3)
    dsimp only at JC
    generalize (jobA 1 T2 0).1 = ja at JC
    generalize (jobA 1 T2 0).2.1 = jb at JC
    generalize (jobA 1 T2 0).2.2 = th at JC
    clear WK hG3 hK3
    go_wp2_with fail
    refine JC.out.mono ?_
    rintro e8 w8 ⟨rfl, hK4⟩
    have TC := Lib.hid (gTick (p := ⟨pc, pq, pA, pk, 1, pE, pe, pm⟩) G3.out hK4 (by omega))
    clear JC hK4
    go_wp2_with fail
    refine TC.out.mono ?_
    rintro e9 w9 ⟨who, ld, lc, T', V', s', D, cd, C, cc, M, cm, nd, nc, nm, hP, hG4, -, -, -, rfl, hK5⟩
    have hwho : (∃ k, k < pm ∧ who = 100 + (k : Int)) ∨ who < 100 := by
      rcases hP with ⟨k, hk, _, _, hw, _⟩ | ⟨_, _, ⟨x, l, _, hx, _, hw, _⟩ | ⟨_, hw, _⟩⟩
      · exact Or.inl ⟨k, hk, hw⟩
      · exact Or.inr (by omega)
      · exact Or.inr (by omega)
    have G4 := Lib.hid hG4
    have K5 := hK5.box 41 #[.int .i64 who, .slice D nd cd, .slice C nc cc, .slice M nm cm]
    obtain ⟨g7, hg7⟩ : ∃ g, w9.heap.size = g := ⟨_, rfl⟩
    rw [hg7, List.append_assoc] at K5
    have K6 := K5.comm
    obtain ⟨a0, a1, a2, a3⟩ := (K6.blk 3 rfl).four4
    have ht1 : t < 301 := by omega
    have ht2 : t + 1 < 301 := by omega
    have n0 := K6.arr_cell 2 rfl ht1
    have n1 := K6.arr_cell 2 rfl ht2
    have n2 := K6.arr_frozen 2 rfl (t + 1)
    unfold takV at n0 n1
    rw [if_pos (Nat.le_refl t)] at n0
    rw [if_neg (show ¬ t + 1 ≤ t by omega)] at n1
    obtain ⟨N, hN⟩ : ∃ N, cntL gg 0 t = N := ⟨_, rfl⟩
    have hNl : N ≤ 300 := by have := cntL_le gg 0 t; omega
    rw [hN] at n0
    have HN := Lib.hid hN
    have K7 := K6.arr_set 2 rfl ht2 (.int .u64 (N : Int))
    obtain ⟨c0, c1, c2, c3⟩ := (K7.blk 3 rfl).four4
    have q9 : IntKind.i64.wrap ((t : Int) + 1) = (t : Int) + 1 := IntWalk.i64_in _ ⟨by omega, by omega⟩
    have u0 : (0 : Int) ≤ (t : Int) := by omega
    have u1 : (t : Int) < 301 := by omega
    have u2 : (0 : Int) ≤ (t : Int) + 1 := by omega
    have u3 : (t : Int) + 1 < 301 := by omega
    have END := Lib.hid (fun (b : Bool) (x : Int) (W : World) (K : St w None W ([BlkR g0 24 (Wk.cells ⟨p, c, r, d⟩), BlkR g4 24 (Wk.cells ⟨p, c, r, d⟩), ArrR hb 22 301 (fun j => if j = t + 1 then .int .u64 x else takV gg t j), BlkR g7 41 #[.int .i64 who, .slice D nd cd, .slice C nc cc, .slice M nm cm]] ++ CpuL ⟨pc, pq, pA, pk, 1, pE, pe, pm⟩ T' V' ((t + 1 : Nat) : Int) s')) (hx : x = (N : Int) + b.toNat) =>
      show St w None W (CpuL ⟨pc, pq, pA, pk, 1, pE, pe, pm⟩ T' V' ((t + 1 : Nat) : Int) s' ++ [BlkR g0 24 (Wk.cells ⟨p, c, r, d⟩), BlkR g4 24 (Wk.cells ⟨p, c, r, d⟩), ArrR hb 22 301 (takV (also gg t b) (t + 1))]) from by
        have K8 := ((K.arr_like (V' := takV (also gg t b) (t + 1)) 2 rfl (fun j hj => by
          show takV (also gg t b) (t + 1) j = if j = t + 1 then .int .u64 x else takV gg t j
          unfold takV
          by_cases e : j = t + 1
          · subst e
            rw [if_pos rfl, if_pos (Nat.le_refl _), takV_new, HN.out, hx]
            congr 1
          · rw [if_neg e]
            by_cases e2 : j ≤ t
            · rw [if_pos e2, if_pos (by omega), takV_old b e2]
            · rw [if_neg e2, if_neg (by omega)])).drop 3 (by simp))
        exact K8.comm)
    clear TC hP hG4 hK5 K5 K6 hN G3
    rcases hwho with ⟨k, hk, rfl⟩ | hwho
    · have q0 : decide (100 ≤ 100 + (k : Int)) = true := decide_eq_true (by omega)
      cases th with
      | true =>
        have HU := Lib.hid (UU.out.step (100 + (k : Int)) true fun _ => ⟨k, hk, rfl⟩)
        have d1 := K7.arr_cell 2 rfl ht2
        rw [if_pos rfl] at d1
        have d2 := K7.arr_frozen 2 rfl (t + 1)
        have q5 : IntKind.u64.wrap ((N : Int) + 1) = (N : Int) + 1 := IntWalk.u64_in _ ⟨by omega, by omega⟩
        have K8 := K7.arr_set 2 rfl ht2 (.int .u64 ((N : Int) + 1))
        have K9 := Lib.hid (END.out true ((N : Int) + 1) _ (K8.arr_like (V' := fun j => if j = t + 1 then .int .u64 ((N : Int) + 1) else takV gg t j) 2 rfl (fun j hj => by by_cases e : j = t + 1 <;> simp [e])) rfl)
        clear K7 K8 END
        go_wp2_with fail
        go_roundw
        case rel => exact ⟨t + 1, _, _, _, _, _, _, _, by go_num, by omega, G4.out, HU.out, K9.out⟩
        case measure => simp [intOf]; omega
      | false =>
        have HU := Lib.hid (UU.out.step (100 + (k : Int)) false fun h => by cases h)
        have K9 := Lib.hid (END.out false (N : Int) _ K7 (by simp))
        clear K7 END
        go_wp2_with fail
        go_roundw
        case rel => exact ⟨t + 1, _, _, _, _, _, _, _, by go_num, by omega, G4.out, HU.out, K9.out⟩
        case measure => simp [intOf]; omega
    · have q0 : decide (100 ≤ who) = false := decide_eq_false (by omega)
      have HU := Lib.hid (UU.out.step who false fun h => by cases h)
      have K9 := Lib.hid (END.out false (N : Int) _ K7 (by simp))
      clear K7 END
      go_wp2_with fail
      go_roundw
      case rel => exact ⟨t + 1, _, _, _, _, _, _, _, by go_num, by omega, G4.out, HU.out, K9.out⟩
      case measure => simp [intOf]; omega

set_option maxRecDepth 100000 in
theorem lifted (os : Os) (started : os.Started) (H : Type) (enc : TypeId × Value → H) :
    ReturnsInHanded {} Try.checked os 3 .any (Rows.topTakenSpec.pre6 enc Try.prog Try.f3 Rows.topTakenRow.domain false) (Rows.topTakenSpec.post enc Try.prog Try.f3 false true false false) := by
  refine law_lifted (C := Try.checked) (tb := 4) own started (by kernel_rfl) Try.func3
    (ChangeSpec.witness6 (enc := enc) (C := Try.checked) false ⟨#[], #[.agg #[.int .i64 0, .int .u64 0, .int .u64 0, .int .u64 0], .slice none 0 0, .slice none 0 0], []⟩ 8 (by kernel_rfl) (by kernel_rfl) (by kernel_rfl) (by kernel_rfl)) laid (by kernel_rfl) (by kernel_rfl) Try.underlying4 rfl ?_
  intro W base args ds ps hval0 hA0 hlt
  have hval : ∀ (j : Nat) t v, Try.f3.params[j]? = some t → args[j]? = some v → Value.okWide Try.prog W .any base t v := hval0
  have hA : DataW.TrodAll enc Try.prog W 0 (fun _ => true) true Try.f3.params.toList args.toList ds ps := hA0
  clear hA0 hval0
  rw [Try.params3] at hA hval
  obtain ⟨v0, vs0, d0, ds0, p0, q0, hargs, rfl, rfl, h0, r0⟩ := trodAll_cons hA
  obtain ⟨v1, vs1, d1, ds1, p1, q1, rfl, rfl, rfl, h1, r1⟩ := trodAll_cons r0
  obtain ⟨v2, vs2, d2, ds2, p2, q2, rfl, rfl, rfl, h2, r2⟩ := trodAll_cons r1
  obtain ⟨rfl, rfl, rfl⟩ := trodAll_nil r2
  obtain rfl : args = #[v0, v1, v2] := by cases args; simp_all
  obtain ⟨cs0, rfl, sz0, ok0⟩ := open_flat (ts := [3, 22, 22, 22]) (Or.inl ⟨_, Try.underlying24⟩) (by kernel_rfl) (by kernel_rfl) (hval 0 24 v0 rfl rfl)
  obtain ⟨c0_0, c0_1, c0_2, c0_3, rfl⟩ := size4 sz0
  obtain ⟨a0_0, rfl, w0_0⟩ := cell_int Try.underlying3 (ok0 0 _ _ rfl rfl)
  obtain ⟨a0_1, rfl, w0_1⟩ := cell_int Try.underlying22 (ok0 1 _ _ rfl rfl)
  obtain ⟨a0_2, rfl, w0_2⟩ := cell_int Try.underlying22 (ok0 2 _ _ rfl rfl)
  obtain ⟨a0_3, rfl, w0_3⟩ := cell_int Try.underlying22 (ok0 3 _ _ rfl rfl)
  obtain ⟨A1, n1, cap1, V1, rfl, le1, mx1, rd1, lf1⟩ := open_slice_spots (m := 2) (d := 20) (l := [(0, 3), (1, 22)]) Try.underlying25 (by kernel_rfl) (by decide) (by kernel_rfl) (hval 1 25 v1 rfl rfl) h1
  have f1_0 := fun j hj => leaf_int Try.underlying3 (lf1 0 3 (by simp) j hj)
  have f1_1 := fun j hj => leaf_int Try.underlying22 (lf1 1 22 (by simp) j hj)
  obtain ⟨A2, n2, cap2, f2, rfl, le2, mx2, wf2, rd2⟩ := open_slice_ints Try.underlying26 Try.underlying5 (by kernel_rfl) (hval 2 26 v2 rfl rfl) h2
  refine ⟨⟨rfl, rfl, rfl⟩, ?_⟩
  obtain ⟨S, hS⟩ := Go.Deep.choose_lt (n := n1) (p := fun j (d : Ld) => V1 j 0 = .int .i64 d.b ∧ V1 j 1 = .int .u64 d.per ∧ d.typed) (fun j hj => by
    obtain ⟨x0, h0, w0⟩ := f1_0 j hj
    obtain ⟨x1, h1, w1⟩ := f1_1 j hj
    exact ⟨⟨x0, x1⟩, h0, h1, bounds_i64 w0, bounds_u64 w1⟩)
  exact walk a0_0 a0_1 a0_2 a0_3 A1 A2 n1 cap1 n2 cap2 S f2 W (by omega) (by omega) (ls_of rd1 fun j hj => ⟨(hS j hj).1, (hS j hj).2.1⟩) (fun j hj => (hS j hj).2.2) rd2 (fun i => bounds_u8 (wf2 i))

theorem over : Rows.topTakenRow.holds Try.pinned (OpenSpec.ofChange Rows.topTakenSpec) :=
  OpenClaim.holds_of_wide 3 Try.f3 rfl rfl rfl rfl rfl rfl rfl ⟨rfl, rfl, rfl, rfl, rfl⟩ rfl rfl rfl rfl rfl (by kernel_rfl) Try.func3 (by kernel_rfl)
    (of_decide_eq_true (by kernel_rfl)) (by unfold Func.isWrapper; first | (rw [if_pos (by decide +kernel)]; kernel_rfl) | (rw [if_neg (by decide +kernel)]; exact ⟨rfl, rfl⟩))
    (fun os started H enc _ => lifted os started H enc)
theorem proved : Rows.TopTakenSaid := over
#print axioms proved
end Go.Proofs.Ytdemhhmceiaohaa.topTaken
