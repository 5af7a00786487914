/-
  For all loads and every row of bytes CpuIdle answers true, and changes nothing: work that is given to servers is done at last, each tick of it by its own server, once no more is given. No condition.
-/
import Derived.Test.YtdnonhhphkmlmaaRows
import Derived.Test.YtdnonhhphkmlmaaFr
import Derived.Test.YtdnonhhphkmlmaaCpuU
import Derived.Test.YtdnonhhphkmlmaaCpuX
import Derived.Test.YtdnonhhphkmlmaaOpen
namespace Go.Proofs.Ytdnonhhphkmlmaa.cpuIdle
open Go.ChangeShapes Go.WideShapes Go.ChangeAt Go.RowKit
set_option linter.unusedVariables false
theorem own : ownKnob Try.prog.godebug = none := by kernel_rfl
theorem laid : laidOutB Try.prog = true := by kernel_rfl
set_option maxRecDepth 100000
set_option maxHeartbeats 4000000
theorem sumN_le_const {g : Nat → Nat} {c : Nat} : ∀ {k : Nat}, (∀ j, j < k → g j ≤ c) → sumN g k ≤ c * k
  | 0, _ => Nat.zero_le _
  | k + 1, h => by
    have := sumN_le_const (g := g) (c := c) (k := k) fun j hj => h j (by omega)
    have := h k (by omega)
    show sumN g k + g k ≤ c * (k + 1)
    rw [Nat.mul_add]; omega
theorem sumN_pos {g : Nat → Nat} : ∀ {k : Nat}, (∃ j, j < k ∧ 0 < g j) → 0 < sumN g k
  | 0, ⟨j, hj, _⟩ => by omega
  | k + 1, ⟨j, hj, h⟩ => by
    show 0 < sumN g k + g k
    by_cases e : j = k
    · subst e; omega
    · have := sumN_pos (g := g) (k := k) ⟨j, by omega, h⟩; omega
theorem sumN_less {g g' : Nat → Nat} {i : Nat} : ∀ {k : Nat}, i < k → 0 < g i → (∀ j, j < k → g' j = g j - (if j = i then 1 else 0)) → sumN g' k + 1 = sumN g k
  | 0, h, _, _ => by omega
  | k + 1, h, hp, hg => by
    show sumN g' k + g' k + 1 = sumN g k + g k
    by_cases e : i = k
    · subst e
      rw [sumN_like (g := g') (h := g) fun j hj => by rw [hg j (by omega), if_neg (by omega)]; rfl, hg i (by omega), if_pos rfl]
      omega
    · have := sumN_less (g := g) (g' := g') (i := i) (k := k) (by omega) hp fun j hj => hg j (by omega)
      rw [hg k (by omega), if_neg (Ne.symm e)]; omega
def tot (m : Nat) (V : Nat → Sv) : Nat := sumN (fun j => (V j).work.toNat) m
/-- How long work can last. -/
def IG (m t : Nat) (V : Nat → Sv) : Prop := (∀ j, j < m → (V j).work = 0) ∨ ∃ z, tot m V ≤ 117 ∧ z ≤ 59 ∧ t + 60 * tot m V ≤ 60 * 117 + z ∧ ∀ k, k < m → ∀ x ∈ (V k).xs, x + (z : Int) ≤ (t : Int) + 59
theorem mem_notBack {t x : Int} {xs : List Int} (h : x ∈ notBack t xs) : x ∈ xs := (List.dropWhile_sublist _).subset h
theorem head_notBack {t : Int} : ∀ {xs : List Int}, notBack t xs ≠ [] → ∃ x ∈ xs, t < x
  | [], h => absurd rfl h
  | x :: xs, h => by
    by_cases hx : x ≤ t
    · have e : notBack t (x :: xs) = notBack t xs := List.dropWhile_cons_of_pos (by simpa using hx)
      rw [e] at h
      obtain ⟨y, hy, hlt⟩ := head_notBack h
      exact ⟨y, List.mem_cons_of_mem _ hy, hlt⟩
    · exact ⟨x, List.mem_cons_self, by omega⟩
theorem seen_xs {V : Nat → Sv} {now : Int} {k j : Nat} {x : Int} (h : x ∈ (seenV V now k j).xs) : x ∈ (V j).xs := by
  rcases seenV_cases V now k j with e | e <;> rw [e] at h
  · exact mem_notBack h
  · exact h
section
variable {n m : Nat} {W : Nat → Wk} {S : Nat → Ld} {t : Nat} {T T' : Nat → CTk} {V V' : Nat → Sv} {s s' : QS} {h : Nat → Int} {r b : Nat → Nat → Bool} {who : Int} {ld lc : List Nat}
theorem IG.tick (G : Gh 0 m W S t T V s h r b) (hP : TickP 0 m T V t s who ld lc T' V' s') (hS : ∀ j, j < m → (S j).per ≤ 60) (I : IG m t V) : IG m (t + 1) V' := by
  obtain ⟨-, -, -, -, hw⟩ := tick_servers hP G.idle_all
  rcases hw with ⟨k, hk, hc, -, hV⟩ | ⟨hno, -, hV⟩
  · rcases I with I | ⟨z, i1, i2, i3, i4⟩
    · have := I k hk; have := hc.1; omega
    · have hwk := hc.1
      have hs := sumN_less (g := fun j => (V j).work.toNat) (g' := fun j => (V' j).work.toNat) (i := k) hk (by omega) fun j hj => by
        rw [serve_work hV j]; split <;> omega
      have hs : tot m V' + 1 = tot m V := hs
      refine Or.inr ⟨0, by omega, by omega, by omega, fun j hj x hx => ?_⟩
      have hold : ∀ y, y ∈ (V j).xs → y + ((0 : Nat) : Int) ≤ ((t + 1 : Nat) : Int) + 59 := fun y hy => by have := i4 j hj y hy; omega
      rw [hV] at hx
      by_cases e : j = k
      · subst e
        rw [updK_self] at hx
        have hx : x ∈ useL (seenV V t (j + 1) j).B (seenV V t (j + 1) j).P t (seenV V t (j + 1) j).xs := hx
        unfold useL at hx
        have hP60 : (seenV V t (j + 1) j).P ≤ 60 := by
          have e1 : (seenV V t (j + 1) j).P = (V j).P := by rcases seenV_cases V t (j + 1) j with e | e <;> rw [e] <;> rfl
          rw [e1, (G.ss j hj).2]; exact hS j hj
        split at hx
        · rcases List.mem_append.1 hx with hx | hx
          · exact hold x (seen_xs (mem_notBack hx))
          · rw [List.mem_singleton] at hx; omega
        · exact hold x (seen_xs (mem_notBack hx))
      · rw [updK_ne _ _ e] at hx
        exact hold x (seen_xs hx)
  · have hwk : ∀ j, (V' j).work = (V j).work := fun j => seen_work hV j
    have ht : tot m V' = tot m V := sumN_like fun j _ => by rw [hwk j]
    by_cases hex : ∃ j, j < m ∧ 0 < (V j).work
    · obtain ⟨j, hj, hpos⟩ := hex
      rcases I with I | ⟨z, i1, i2, i3, i4⟩
      · have := I j hj; omega
      · have hlen : ¬ ((notBack t (V j).xs).length : Int) < (V j).B := fun hl => hno j hj ⟨hpos, hl⟩
        have hB := (G.so j hj).s.1
        have hne : notBack t (V j).xs ≠ [] := fun e => by rw [e] at hlen; apply hlen; show ((0 : Nat) : Int) < _; omega
        obtain ⟨x, hx, hlt⟩ := head_notBack hne
        have := i4 j hj x hx
        refine Or.inr ⟨z + 1, by omega, by omega, by omega, fun k hk x hx => ?_⟩
        rw [hV] at hx
        have := i4 k hk x (seen_xs hx)
        omega
    · refine Or.inl fun j hj => ?_
      rw [hwk j]
      have h0 := (G.so j hj).w0
      have : ¬ 0 < (V j).work := fun hp => hex ⟨j, hj, hp⟩
      omega
theorem IG.done (I : IG m 7400 V) : ∀ j, j < m → (V j).work = 0 := by
  rcases I with I | ⟨z, i1, i2, i3, i4⟩
  · exact I
  · omega
end
/-- What each server still has to do. -/
def wantV (V : Nat → Sv) (j : Nat) : Value := .int .i64 (V j).work
theorem walk (E Z : Option Addr) (m ce q cz : Nat) (S : Nat → Ld) (f : Nat → Int) (w : World) (hm : m ≤ maxLen) (hq : q ≤ maxLen) (rdS : Ls w E m S) (ht : LTyped m S) (rdZ : Rd w Z q (fun i => .int .u8 (f i)))
    (hf : ∀ i, 0 ≤ f i ∧ f i ≤ 255) :
    Calls Try.prog 8 #[.slice E m ce, .slice Z q cz] w fun r' w' => r' = .returned (.bool true) ∧ Below w.heap.size w w' := by
  have HMS := Lib.hid (fun X (hX : Below w.heap.size w X) => rmay17_c (cap := 0) (capB := ce) (ts_none X awW) (rdS.below hX) ht (by unfold maxLen; omega) hm (decide (TOK 0 awW ∧ LOK m S)) rfl)
  have HNW := Lib.hid (fun X (hX : Below w.heap.size w X) hS => cNew_c (A := none) (n := 0) (W := awW) (ca := 0) (ce := ce) (ts_none X awW) (rdS.below hX) (tok_none awW) hS ht)
  have RS := Lib.hid rdS
  have RZ := Lib.hid rdZ
  have HF := Lib.hid hf
  clear rdS ht rdZ hf
  unfold maxLen at hm hq
  go_enter Try.func8, Try.ntmps8
  go_wp2_with fail
  refine (awake_any _).mono ?_
  rintro e1 w1 ⟨rfl, hb1⟩
  have B1 := Lib.hid hb1
  clear hb1
  go_wp2_with fail
  refine (HMS.out _ B1.out).mono ?_
  rintro e2 w2 ⟨rfl, hb2⟩
  have B2 := Lib.hid (below_then B1.out hb2)
  clear hb2 HMS
  by_cases hS : TOK 0 awW ∧ LOK m S
  case neg =>
    rw [decide_eq_false hS]
    clear hS
    go_wp2_with fail
    go_ret
    exact ⟨rfl, B2.out⟩
  rw [decide_eq_true hS]
  have HS := Lib.hid hS.2
  clear hS
  by_cases hm0 : m = 0
  · have z1 : ((m : Int) == 0) = true := beq_iff_eq.2 (by omega)
    have z1' : (m == 0) = true := beq_iff_eq.2 hm0
    go_wp2_with fail
    go_ret
    exact ⟨rfl, B2.out⟩
  have z1 : ((m : Int) == 0) = false := beq_eq_false_iff_ne.2 (by omega)
  have z1' : (m == 0) = false := beq_eq_false_iff_ne.2 hm0
  by_cases hm3 : 3 < m
  · have z2 : decide ((3 : Int) < (m : Int)) = true := decide_eq_true (by omega)
    have z2' : decide (3 < m) = true := decide_eq_true hm3
    go_wp2_with fail
    go_ret
    exact ⟨rfl, B2.out⟩
  have z2 : decide ((3 : Int) < (m : Int)) = false := decide_eq_false (by omega)
  have z2' : decide (3 < m) = false := decide_eq_false hm3
  have NC := Lib.hid (HNW.out w2 B2.out HS.out)
  clear HNW
  go_wp2_with fail
  refine NC.out.mono ?_
  rintro e5 w5 ⟨P, V5, rfl, en, em, hV, s5⟩
  obtain ⟨pc, pq, pA, pk, pn, pE, pe, pm⟩ := P
  dsimp only at en em
  subst en em
  have G0 := Lib.hid (Gh.anew (tok_none awW) HS.out hV)
  have HV5 := Lib.hid hV
  have s6 := ((St.begin w).stay B2.out).cpu s5
  obtain ⟨iU, hiU, hzU, hsU, hbU⟩ := info3c (P := Try.prog) (t := 3) (z := .int .i64 0) (s := 1) (b := 8) (by kernel_rfl)
  have mU := fun W => run_make_rowN (P := Try.prog) 37 3 iU (.int .i64 0) Try.underlying37 hiU hzU rfl hsU .i64 .i64 pm (by rw [hbU]; omega) (by omega) W
  have s7 := (s6.made_row 3 pm (.int .i64 0))
  obtain ⟨hb, hhb⟩ : ∃ hb, w5.heap.size = hb := ⟨_, rfl⟩
  rw [hhb, List.append_nil] at s7
  have S7 := Lib.hid ((show St w None _ ([ArrR hb 3 pm (fun _ => .int .i64 0)] ++ CpuL ⟨pc, pq, pA, pk, 0, pE, pe, pm⟩ (fun j => tk0 (awW j)) V5 0 QS.new) from s7.comm).arr_like (V' := wantV V5) 0 rfl (fun j hj => by
    unfold wantV; rw [(HV5.out j hj).2.1]))
  have S8 := Lib.hid (show St w None _ (CpuL ⟨pc, pq, pA, pk, 0, pE, pe, pm⟩ (fun j => tk0 (awW j)) V5 0 QS.new ++ [ArrR hb 3 pm (wantV V5)]) from
    (show St w None _ ([ArrR hb 3 pm (wantV V5)] ++ CpuL ⟨pc, pq, pA, pk, 0, pE, pe, pm⟩ (fun j => tk0 (awW j)) V5 0 QS.new) from S7.out).comm)
  clear s6 s7 s5 NC hV B1 S7
  go_wp2_with fail
  clear mU
  go_loopw [8] (fun x8 wr => ∃ (k : Nat) (V : Nat → Sv), x8 = .int .i64 (k : Int) ∧ k ≤ pm ∧ Gh 0 pm awW S 0 (fun j => tk0 (awW j)) V QS.new (fun _ => -1) (fun _ _ => false) (fun _ _ => false) ∧ (∀ j, j < pm → (V j).work ≤ 39 ∧ (V j).xs = []) ∧ (∀ j, k ≤ j → j < pm → (V j).work = 0) ∧ (∀ j, j < k → (S j).per ≤ 60) ∧
    St w None wr (CpuL ⟨pc, pq, pA, pk, 0, pE, pe, pm⟩ (fun j => tk0 (awW j)) V ((0 : Nat) : Int) QS.new ++ [ArrR hb 3 pm (wantV V)])) (fun x _ => pm - (intOf x).toNat)
  case atStart => exact ⟨0, V5, rfl, by omega, G0.out, (fun j hj => ⟨by rw [(HV5.out j hj).2.1]; omega, (HV5.out j hj).2.2.1⟩), (fun j _ hj => (HV5.out j hj).2.1), (fun j hj => absurd hj (by omega)), S8.out⟩
  case round =>
  clear G0 S8 HV5
  obtain ⟨k, V, rfl, hk, hG, hw39, hw0, hp60, hK⟩ := hrel
  have HG := Lib.hid hG
  have K0 := Lib.hid hK
  have H39 := Lib.hid hw39
  have H0 := Lib.hid hw0
  have H60 := Lib.hid hp60
  clear hG hK hw39 hw0 hp60
  by_cases hkm : k < pm
  · have y1 : decide ((k : Int) < (pm : Int)) = true := decide_eq_true (by omega)
    have y1' : decide (k < pm) = true := decide_eq_true hkm
    obtain ⟨ib, off, rfl, e0, e1⟩ := RS.out.at_ K0.out.below hkm
    by_cases hper : 60 < (S k).per
    · have y2 : decide (60 < (S k).per) = true := decide_eq_true hper
      have BB := K0.out.below
      go_wp2_with fail
      go_ret
      exact ⟨rfl, BB⟩
    have y2 : decide (60 < (S k).per) = false := decide_eq_false hper
    have HP6 := Lib.hid (show ∀ j, j < k + 1 → (S j).per ≤ 60 from fun j hj => by
      rcases Nat.lt_or_ge j k with h | h
      · exact H60.out j h
      · obtain rfl : j = k := by omega
        omega)
    by_cases hkq : k < q
    case neg =>
      have y3 : decide ((k : Int) < (q : Int)) = false := decide_eq_false (by omega)
      have y3' : decide (k < q) = false := decide_eq_false hkq
      go_wp2_with fail
      go_roundw
      case rel => exact ⟨k + 1, V, by go_num, by omega, HG.out, H39.out, (fun j h1 h2 => H0.out j (by omega) h2), HP6.out, K0.out⟩
      case measure => simp [intOf]; omega
    have y3 : decide ((k : Int) < (q : Int)) = true := decide_eq_true (by omega)
    have y3' : decide (k < q) = true := decide_eq_true hkq
    obtain ⟨sb, of2, rfl, hsb, hcell⟩ := RZ.out (by omega)
    have hy := (K0.out.below.cell (p := ⟨sb, of2 + k, none⟩) hsb).trans (hcell _ hkq)
    dsimp only at hy
    obtain ⟨f0, f1⟩ := HF.out k
    generalize f k = fv at *
    have m1 : Int.tmod fv 40 = fv % 40 := Int.tmod_eq_emod_of_nonneg f0
    have m0 : 0 ≤ fv % 40 ∧ fv % 40 ≤ 39 := by omega
    have mw : IntKind.i64.wrap fv = fv := IntWalk.i64_in _ ⟨by omega, by omega⟩
    obtain ⟨dv, hdv⟩ : ∃ dv, fv % 40 = dv := ⟨_, rfl⟩
    rw [hdv] at m0 m1
    have mw2 : IntKind.u64.wrap dv = dv := IntWalk.u64_in _ ⟨by omega, by omega⟩
    have K4 := K0.out.comm
    have c0 := K4.arr_cell 0 rfl hkm
    have c1 := K4.arr_frozen 0 rfl k
    unfold wantV at c0
    have K5 := K4.arr_set 0 rfl hkm (.int .i64 dv)
    have K6 : St w None (wr.setCell ⟨hb, k, none⟩ (.int .i64 dv)) (CpuL ⟨pc, pq, pA, pk, 0, pE, pe, pm⟩ (fun j => tk0 (awW j)) V ((0 : Nat) : Int) QS.new ++ [ArrR hb 3 pm (fun j => if j = k then .int .i64 dv else wantV V j)]) :=
      (show St w None _ ([ArrR hb 3 pm (fun j => if j = k then .int .i64 dv else wantV V j)] ++ CpuL ⟨pc, pq, pA, pk, 0, pE, pe, pm⟩ (fun j => tk0 (awW j)) V ((0 : Nat) : Int) QS.new) from K5).comm
    have d0 : (wr.setCell ⟨hb, k, none⟩ (.int .i64 dv)).cell? ⟨hb, k, none⟩ = some (.int .i64 dv) := by
      have h := K6.comm.arr_cell 0 rfl hkm
      rw [if_pos rfl] at h; exact h
    have WK := Lib.hid (gWake (p := ⟨pc, pq, pA, pk, 0, pE, pe, pm⟩) (id := (k : Int)) (dem := dv) HG.out K6 m0.1)
    have EV := Lib.hid (show (∀ j, j < pm → (wakeV pm V (k : Int) dv j).work = if j = k then dv else (V j).work) ∧ ∀ j, j < pm → (wakeV pm V (k : Int) dv j).xs = [] from by
      unfold wakeV
      rw [if_pos (by omega), Int.toNat_natCast]
      refine ⟨fun j hj => ?_, fun j hj => ?_⟩
      · by_cases e : j = k
        · subst e
          rw [updK_self, if_pos rfl]
          show (V j).work + min dv (1048576 - (V j).work) = dv
          rw [H0.out j (Nat.le_refl _) hj]; omega
        · rw [updK_ne V _ e, if_neg e]
      · by_cases e : j = k
        · subst e; rw [updK_self]; exact (H39.out j hj).2
        · rw [updK_ne V _ e]; exact (H39.out j hj).2)
    obtain ⟨wa, hwa⟩ : ∃ wa, wakeA pm (k : Int) = wa := ⟨_, rfl⟩
    dsimp only at WK
    rw [hwa] at WK
    generalize wakeV pm V (k : Int) dv = V2 at *
    clear hcell K4 K5 K6 HG K0 hwa
    have HH0 := H0
    have HH39 := H39
    clear H0 H39
    go_wp2_with fail
    refine WK.out.mono ?_
    rintro e6 w6 ⟨hG2, rfl, hK2⟩
    have HG := Lib.hid hG2
    have K7 := Lib.hid ((show St w None w6 ([ArrR hb 3 pm (fun j => if j = k then .int .i64 dv else wantV V j)] ++ CpuL ⟨pc, pq, pA, pk, 0, pE, pe, pm⟩ (fun j => tk0 (awW j)) V2 ((0 : Nat) : Int) QS.new) from hK2.comm).arr_like (V' := wantV V2) 0 rfl (fun j hj => by
      show wantV V2 j = if j = k then .int .i64 dv else wantV V j
      unfold wantV
      rw [EV.out.1 j hj]
      split <;> rfl))
    clear WK hG2 hK2
    go_wp2_with fail
    go_roundw
    case rel => exact ⟨k + 1, V2, by go_num, by omega, HG.out, (fun j hj => ⟨by
      rw [EV.out.1 j hj]; split
      · omega
      · exact (HH39.out j hj).1, EV.out.2 j hj⟩), (fun j h1 h2 => by rw [EV.out.1 j h2, if_neg (by omega)]; exact HH0.out j (by omega) h2), HP6.out, K7.out.comm⟩
    case measure => simp [intOf]; omega
  obtain rfl : k = pm := by omega
  have y1 : decide ((k : Int) < (k : Int)) = false := decide_eq_false (by omega)
  have I0 := Lib.hid (show IG k 0 V from Or.inr ⟨0, by
      have := sumN_le_const (g := fun j => (V j).work.toNat) (c := 39) (k := k) fun j hj => by
        have := (H39.out j hj).1
        omega
      unfold tot; omega, by omega, by
      have := sumN_le_const (g := fun j => (V j).work.toNat) (c := 39) (k := k) fun j hj => by
        have := (H39.out j hj).1
        omega
      unfold tot; omega, fun j hj x hx => by rw [(H39.out j hj).2] at hx; cases hx⟩)
  have V0' := V
  clear H0 H39
  go_wp2_with fail
  go_loopw [9, 10, 11] (fun x9 x10 x11 wi => ∃ (t : Nat) (T : Nat → CTk) (V : Nat → Sv) (s : QS) (h : Nat → Int) (r b : Nat → Nat → Bool), x9 = .int .i64 (t : Int) ∧ t ≤ 7400 ∧ IG k t V ∧ Gh 0 k awW S t T V s h r b ∧ St w None wi (CpuL ⟨pc, pq, pA, pk, 0, pE, pe, k⟩ T V (t : Int) s ++ [ArrR hb 3 k (wantV V)])) (fun x _ _ _ => 7400 - (intOf x).toNat)
  case atStart => exact ⟨0, _, _, _, _, _, _, rfl, by omega, I0.out, HG.out, K0.out⟩
  case round =>
  clear I0 HG K0
  obtain ⟨t, T, V, s, h, r, b, rfl, ht, hI, hG, hK⟩ := hrel
  have HI := Lib.hid hI
  have HG := Lib.hid hG
  have K0 := Lib.hid hK
  clear hI hG hK
  by_cases hlt : t < 7400
  · have y2 : decide ((t : Int) < 7400) = true := decide_eq_true (by omega)
    have y2' : decide (t < 7400) = true := decide_eq_true hlt
    have TC := Lib.hid (gTick (p := ⟨pc, pq, pA, pk, 0, pE, pe, k⟩) HG.out K0.out (by omega))
    have y9 : IntKind.i64.wrap ((t : Int) + 1) = (t : Int) + 1 := IntWalk.i64_in _ ⟨by omega, by omega⟩
    clear K0
    go_wp2_with fail
    refine TC.out.mono ?_
    rintro e7 w7 ⟨who, ld, lc, T', V', s', D, cd, C, cc, M, cm, nd, nc, nm, hP, hG2, -, -, -, rfl, hK2⟩
    have I2 := Lib.hid (IG.tick HG.out hP H60.out HI.out)
    obtain ⟨-, -, -, -, hwho⟩ := tick_servers hP HG.out.idle_all
    have G2 := Lib.hid hG2
    have K3 := hK2.box 39 #[.int .i64 who, .slice D nd cd, .slice C nc cc, .slice M nm cm]
    obtain ⟨g7, hg7⟩ : ∃ g, w7.heap.size = g := ⟨_, rfl⟩
    rw [hg7, List.append_assoc] at K3
    have K4 := K3.comm
    obtain ⟨a0, a1, a2, a3⟩ := (K4.blk 1 rfl).four4
    rcases hwho with ⟨i, hi, hc, rfl, hV⟩ | ⟨_, rfl, hV⟩
    · have q0 : decide (100 ≤ 100 + (i : Int)) = true := decide_eq_true (by omega)
      have q1 : IntKind.i64.wrap (100 + (i : Int) - 100) = (i : Int) := by rw [show 100 + (i : Int) - 100 = (i : Int) by omega]; exact IntWalk.i64_in _ ⟨by omega, by omega⟩
      have q2 : 100 + (i : Int) - 100 = (i : Int) := by omega
      have c0 := K4.arr_cell 0 rfl hi
      have c1 := K4.arr_frozen 0 rfl i
      unfold wantV at c0
      have wb := (HG.out.so i hi).w1
      have wp := hc.1
      obtain ⟨N, hN⟩ : ∃ N, (V i).work = N := ⟨_, rfl⟩
      rw [hN] at c0 wb wp
      have q4 : IntKind.i64.wrap (N - 1) = N - 1 := IntWalk.i64_in _ ⟨by omega, by omega⟩
      have K6 := Lib.hid (((K4.arr_set 0 rfl hi (.int .i64 (N - 1))).arr_like (V' := wantV V') 0 rfl (fun j hj => by
        show wantV V' j = if j = i then .int .i64 (N - 1) else wantV V j
        unfold wantV
        rw [serve_work hV j]
        by_cases e : j = i
        · subst e; rw [if_pos rfl, if_pos rfl, hN]
        · rw [if_neg e, if_neg e, Int.sub_zero])).drop 1 (by simp))
      clear K4 K3 hK2 hG2 hN hV hc TC hP HI HG
      go_wp2_with fail
      go_roundw
      case rel => exact ⟨t + 1, _, _, _, _, _, _, by go_num, by omega, I2.out, G2.out, K6.out.comm⟩
      case measure => simp [intOf]; omega
    · have K6 := Lib.hid ((K4.arr_like (V' := wantV V') 0 rfl (fun j hj => by
        unfold wantV; rw [seen_work hV j])).drop 1 (by simp))
      clear K4 K3 hK2 hG2 hV TC hP HI HG
      go_wp2_with fail
      go_roundw
      case rel => exact ⟨t + 1, _, _, _, _, _, _, by go_num, by omega, I2.out, G2.out, K6.out.comm⟩
      case measure => simp [intOf]; omega
  · have e7 : t = 7400 := by omega
    have HZ := Lib.hid (show ∀ j, j < k → (V j).work = 0 from by have h := HI.out; rw [e7] at h; exact h.done)
    have y2 : decide ((t : Int) < 7400) = false := decide_eq_false (by omega)
    have y2' : decide (t < 7400) = false := decide_eq_false hlt
    clear HI HG e7 hlt ht
    go_wp2_with fail
    go_loopw [12] (fun x12 wi => ∃ i : Nat, x12 = .int .i64 (i : Int) ∧ i ≤ k ∧ St w None wi (CpuL ⟨pc, pq, pA, pk, 0, pE, pe, k⟩ T V (t : Int) s ++ [ArrR hb 3 k (wantV V)])) (fun x _ => k - (intOf x).toNat)
    case atStart => exact ⟨0, rfl, by omega, K0.out⟩
    case round =>
    clear K0
    obtain ⟨i, rfl, hi, hK⟩ := hrel
    by_cases hik : i < k
    · have y3 : decide ((i : Int) < (k : Int)) = true := decide_eq_true (by omega)
      have y3' : decide (i < k) = true := decide_eq_true hik
      have c0 := hK.comm.arr_cell 0 rfl hik
      unfold wantV at c0
      rw [HZ.out i hik] at c0
      have WC := Lib.hid (cWork_c (id := (i : Int)) hK)
      have ew : workA k V (i : Int) = 0 := by
        unfold workA; rw [if_pos (by omega), Int.toNat_natCast]; exact HZ.out i hik
      dsimp only at WC
      rw [ew] at WC
      have K1 := Lib.hid hK
      clear ew hK
      go_wp2_with fail
      refine WC.out.mono ?_
      rintro e7 w7 ⟨rfl, rfl⟩
      clear WC
      go_wp2_with fail
      go_roundw
      case rel => exact ⟨i + 1, by go_num, by omega, K1.out⟩
      case measure => simp [intOf]; omega
    · obtain rfl : i = k := by omega
      have y3 : decide ((i : Int) < (i : Int)) = false := decide_eq_false (by omega)
      have BB := hK.below
      go_wp2_with fail
      go_ret
      exact ⟨rfl, BB⟩

set_option maxRecDepth 100000 in
theorem lifted (os : Os) (started : os.Started) (H : Type) (enc : TypeId × Value → H) :
    ReturnsInHanded {} Try.checked os 8 .any (Rows.cpuIdleSpec.pre6 enc Try.prog Try.f8 Rows.cpuIdleRow.domain false) (Rows.cpuIdleSpec.post enc Try.prog Try.f8 false true false false) := by
  refine law_lifted (C := Try.checked) (tb := 4) own started (by kernel_rfl) Try.func8
    (ChangeSpec.witness6 (enc := enc) (C := Try.checked) false ⟨#[], #[.slice none 0 0, .slice none 0 0], []⟩ 8 (by kernel_rfl) (by kernel_rfl) (by kernel_rfl) (by kernel_rfl)) laid (by kernel_rfl) (by kernel_rfl) Try.underlying4 rfl ?_
  intro W base args ds ps hval0 hA0 hlt
  have hval : ∀ (j : Nat) t v, Try.f8.params[j]? = some t → args[j]? = some v → Value.okWide Try.prog W .any base t v := hval0
  have hA : DataW.TrodAll enc Try.prog W 0 (fun _ => true) true Try.f8.params.toList args.toList ds ps := hA0
  clear hA0 hval0
  rw [Try.params8] at hA hval
  obtain ⟨v0, vs0, d0, ds0, p0, q0, hargs, rfl, rfl, h0, r0⟩ := trodAll_cons hA
  obtain ⟨v1, vs1, d1, ds1, p1, q1, rfl, rfl, rfl, h1, r1⟩ := trodAll_cons r0
  obtain ⟨rfl, rfl, rfl⟩ := trodAll_nil r1
  obtain rfl : args = #[v0, v1] := by cases args; simp_all
  obtain ⟨A0, n0, cap0, V0, rfl, le0, mx0, rd0, lf0⟩ := open_slice_spots (m := 2) (d := 20) (l := [(0, 3), (1, 31)]) Try.underlying23 (by kernel_rfl) (by decide) (by kernel_rfl) (hval 0 23 v0 rfl rfl) h0
  have f0_0 := fun j hj => leaf_int Try.underlying3 (lf0 0 3 (by simp) j hj)
  have f0_1 := fun j hj => leaf_int Try.underlying31 (lf0 1 31 (by simp) j hj)
  obtain ⟨A1, n1, cap1, f1, rfl, le1, mx1, wf1, rd1⟩ := open_slice_ints Try.underlying43 Try.underlying5 (by kernel_rfl) (hval 1 43 v1 rfl rfl) h1
  refine ⟨⟨rfl, rfl, rfl⟩, ?_⟩
  obtain ⟨S, hS⟩ := Go.Deep.choose_lt (n := n0) (p := fun j (d : Ld) => V0 j 0 = .int .i64 d.b ∧ V0 j 1 = .int .u64 d.per ∧ d.typed) (fun j hj => by
    obtain ⟨x0, h0, w0⟩ := f0_0 j hj
    obtain ⟨x1, h1, w1⟩ := f0_1 j hj
    exact ⟨⟨x0, x1⟩, h0, h1, bounds_i64 w0, bounds_u64 w1⟩)
  exact walk A0 A1 n0 cap0 n1 cap1 S f1 W (by omega) (by omega) (ls_of rd0 fun j hj => ⟨(hS j hj).1, (hS j hj).2.1⟩) (fun j hj => (hS j hj).2.2) rd1 (fun i => bounds_u8 (wf1 i))

theorem over : Rows.cpuIdleRow.holds Try.pinned (OpenSpec.ofChange Rows.cpuIdleSpec) :=
  OpenClaim.holds_of_wide 8 Try.f8 rfl rfl rfl rfl rfl rfl rfl ⟨rfl, rfl, rfl, rfl, rfl⟩ rfl rfl rfl rfl rfl (by kernel_rfl) Try.func8 (by kernel_rfl)
    (of_decide_eq_true (by kernel_rfl)) (by unfold Func.isWrapper; first | (rw [if_pos (by decide +kernel)]; kernel_rfl) | (rw [if_neg (by decide +kernel)]; exact ⟨rfl, rfl⟩))
    (fun os started H enc _ => lifted os started H enc)
theorem proved : Rows.CpuIdleSaid := over
#print axioms proved
end Go.Proofs.Ytdnonhhphkmlmaa.cpuIdle
