/-
  For all tasks and every row of bytes CpuUrgent answers true, and changes nothing: as long as a job is there, and no server runs, the most urgent one runs; of alike ones the one that was released first. No condition.
-/
import Derived.Test.YtdnonhhphkmlmaaRows
import Derived.Test.YtdnonhhphkmlmaaFr
import Derived.Test.YtdnonhhphkmlmaaCpuU
import Derived.Test.YtdnonhhphkmlmaaCpuX
import Derived.Test.YtdnonhhphkmlmaaOpen
namespace Go.Proofs.Ytdnonhhphkmlmaa.cpuUrgent
open Go.ChangeShapes Go.WideShapes Go.ChangeAt Go.RowKit
set_option linter.unusedVariables false
theorem own : ownKnob Try.prog.godebug = none := by kernel_rfl
theorem laid : laidOutB Try.prog = true := by kernel_rfl
set_option maxRecDepth 100000
set_option maxHeartbeats 4000000
/-- When each was released. -/
def whenV (T : Nat → CTk) (j : Nat) : Value := .int .i64 (T j).rel
def ltT (T : Nat → CTk) (a b : Nat) : Prop := (T a).prio < (T b).prio ∨ (T a).prio = (T b).prio ∧ (T a).rel < (T b).rel
/-- Of alike ones who was released first is ahead; all were released ahead of t. -/
structure UO (t : Int) (T : Nat → CTk) (s : QS) : Prop where
  ord : ∀ p, (s.lst p).Pairwise fun a b => (T a).rel < (T b).rel
  old : ∀ p j, j ∈ s.lst p → (T j).rel < t
theorem flat_first {f : Nat → List Nat} {x : Nat × Nat} {t : List (Nat × Nat)} : ∀ {k : Nat}, flat f k = x :: t → ∃ l, f x.2 = x.1 :: l
  | 0, h => by simp [flat] at h
  | k + 1, h => by
    simp only [flat] at h
    cases hc : flat f k with
    | nil =>
      rw [hc, List.nil_append] at h
      cases hf : f k with
      | nil => rw [hf] at h; cases h
      | cons a l =>
        rw [hf, List.map_cons] at h
        injection h with h1 h2
        subst h1
        exact ⟨l, hf⟩
    | cons z l =>
      rw [hc] at h
      injection h with h1 h2
      subst h1
      exact flat_first hc
section
variable {n m : Nat} {W : Nat → Wk} {S : Nat → Ld} {t : Nat} {T T' : Nat → CTk} {V V' : Nat → Sv} {s s' : QS} {h : Nat → Int} {r b : Nat → Nat → Bool} {who : Int} {ld lc : List Nat}
theorem UO.head (G : Gh n m W S t T V s h r b) {t' : Int} (O : UO t' T s) {x : Nat × Nat} {l : List (Nat × Nat)} (hall : s.all = x :: l) {j : Nat} (hj : j < n) (hth : (T j).there = true) (hne : j ≠ x.1) : ltT T x.1 j := by
  have hw := (G.ws j hj).1
  have hok := (G.wok j hj).1
  have hp : s.pr j = some (T j).prio.toNat := (G.link j _).2 ⟨hj, hth, by omega⟩
  have hin : (j, (T j).prio.toNat) ∈ s.all := G.q.all_mem.2 hp
  have hxp : s.pr x.1 = some x.2 := G.q.all_mem.1 (by rw [hall]; exact List.mem_cons_self)
  have hx3 := ((G.link x.1 x.2).1 hxp).2.2
  have hle := flat_head (k := 101) (show flat s.lst 101 = x :: l from hall) _ hin
  dsimp only at hle
  by_cases e : x.2 = (T j).prio.toNat
  · obtain ⟨l2, hl2⟩ := flat_first (k := 101) (show flat s.lst 101 = x :: l from hall)
    have hmem : j ∈ s.lst x.2 := (G.q.mem x.2 j).2 (by rw [hp, e])
    have hpw := O.ord x.2
    rw [hl2] at hmem hpw
    rcases List.mem_cons.1 hmem with h | h
    · exact absurd h hne
    · exact Or.inr ⟨by omega, (List.pairwise_cons.1 hpw).1 j h⟩
  · exact Or.inl (by omega)
theorem UO.tick (G : Gh n m W S t T V s h r b) (hP : TickP n m T V t s who ld lc T' V' s') {t' : Int} (O : UO t' T s) : UO t' T' s' ∧ ∀ j, (T' j).rel = (T j).rel := by
  have key : ∀ x : Nat, UO t' (updK T x (runT (T x))) s ∧ ∀ j, (updK T x (runT (T x)) j).rel = (T j).rel := fun x => by
    have hr : ∀ j, (updK T x (runT (T x)) j).rel = (T j).rel := fun j => by
      by_cases e : j = x
      · subst e; rw [updK_self]; rfl
      · rw [updK_ne T _ e]
    exact ⟨⟨fun p => (O.ord p).imp fun {a b} hab => by rw [hr a, hr b]; exact hab, fun p j hj => by rw [hr j]; exact O.old p j hj⟩, hr⟩
  rcases hP with ⟨k, hk, hcan, hno, rfl, rfl, rfl, rfl, rfl, hV⟩ | ⟨hno, hV, ⟨x, l, hall, hx, hth, rfl, rfl, rfl, rfl, rfl⟩ | ⟨hall, rfl, rfl, rfl, rfl, rfl⟩⟩
  · exact ⟨O, fun _ => rfl⟩
  · obtain ⟨k1, k2⟩ := key x.1
    refine ⟨?_, k2⟩
    split
    · exact ⟨fun p => (k1.ord p).filter _, fun p j hj => k1.old p j (List.mem_filter.1 hj).1⟩
    · exact k1
  · exact ⟨O, fun _ => rfl⟩
theorem UO.release (G : Gh n m W S t T V s h r b) (O : UO t T s) {j : Nat} (hj : j < n) (dem : Int) (hn : (T j).there = false) : UO ((t : Int) + 1) (updK T j (relT (T j) t dem)) (s.come j (T j).prio.toNat) := by
  have hno : ∀ p, j ∉ s.lst p := fun p hc => by
    have := ((G.link j p).1 ((G.q.mem p j).1 hc)).2.1
    rw [hn] at this; cases this
  have hne : ∀ p a, a ∈ s.lst p → (updK T j (relT (T j) t dem) a).rel = (T a).rel := fun p a ha => by
    have e2 : a ≠ j := fun e => hno p (by rw [← e]; exact ha)
    rw [updK_ne T _ e2]
  have hjr : (updK T j (relT (T j) t dem) j).rel = t := by rw [updK_self]; rfl
  have hold : ∀ p a, a ∈ s.lst p → (updK T j (relT (T j) t dem) a).rel < t := fun p a ha => by rw [hne p a ha]; exact O.old p a ha
  have hpw : ∀ p, (s.lst p).Pairwise fun a b => (updK T j (relT (T j) t dem) a).rel < (updK T j (relT (T j) t dem) b).rel := fun p =>
    (O.ord p).imp_of_mem fun {a b} ha hb hab => by rw [hne p a ha, hne p b hb]; exact hab
  refine ⟨fun p => ?_, fun p a ha => ?_⟩
  · show (if p = (T j).prio.toNat then s.lst p ++ [j] else s.lst p).Pairwise _
    split
    · rw [List.pairwise_append]
      refine ⟨hpw p, List.pairwise_singleton _ _, fun a ha b hb => ?_⟩
      rw [List.mem_singleton] at hb
      subst hb
      rw [hjr]; exact hold p a ha
    · exact hpw p
  · have ha : a ∈ (if p = (T j).prio.toNat then s.lst p ++ [j] else s.lst p) := ha
    split at ha
    · rcases List.mem_append.1 ha with ha | ha
      · have := hold p a ha; omega
      · rw [List.mem_singleton] at ha
        subst ha
        rw [hjr]; omega
    · have := hold p a ha; omega
theorem UO.more {t t' : Int} (O : UO t T s) (h : t ≤ t') : UO t' T s := ⟨O.ord, fun p j hj => by have := O.old p j hj; omega⟩
/-- The best of the first k. -/
def Bst (T : Nat → CTk) (k : Nat) (x : Int) : Prop := (x = -1 ∧ ∀ j, j < k → (T j).there = false) ∨ ∃ b : Nat, x = (b : Int) ∧ b < k ∧ (T b).there = true ∧ ∀ j, j < k → (T j).there = true → ¬ ltT T j b
theorem Bst.runs (G : Gh n 0 W S t T V s h r b) {t' : Int} (O : UO t' T s) (hP : TickP n 0 T V t s who ld lc T' V' s') {x : Int} (B : Bst T n x) : who = x := by
  rcases hP with ⟨k, hk, _⟩ | ⟨hno, hV, ⟨y, l, hall, hy, hth, rfl, _⟩ | ⟨hall, rfl, _⟩⟩
  · omega
  · rcases B with ⟨rfl, hB⟩ | ⟨c, rfl, hc, hct, hB⟩
    · rw [hB y.1 hy] at hth; cases hth
    · by_cases e : c = y.1
      · rw [e]
      · exact absurd (O.head G hall hc hct e) (hB y.1 hy hth)
  · rcases B with ⟨rfl, hB⟩ | ⟨c, rfl, hc, hct, hB⟩
    · rfl
    · have hw := (G.ws c hc).1
      have hok := (G.wok c hc).1
      have hp : s.pr c = some (T c).prio.toNat := (G.link c _).2 ⟨hc, hct, by omega⟩
      have := (G.q.all_mem (x := (c, (T c).prio.toNat))).2 hp
      rw [hall] at this; cases this
theorem Bst.skip {k : Nat} {x : Int} (B : Bst T k x) (h : (T k).there = false) : Bst T (k + 1) x := by
  rcases B with ⟨rfl, hB⟩ | ⟨c, rfl, hc, hct, hB⟩
  · exact Or.inl ⟨rfl, fun j hj => by
      rcases Nat.lt_or_ge j k with h1 | h1
      · exact hB j h1
      · obtain rfl : j = k := by omega
        exact h⟩
  · exact Or.inr ⟨c, rfl, by omega, hct, fun j hj hth => by
      rcases Nat.lt_or_ge j k with h1 | h1
      · exact hB j h1 hth
      · obtain rfl : j = k := by omega
        rw [h] at hth; cases hth⟩
theorem Bst.first {k : Nat} (B : Bst T k (-1)) (h : (T k).there = true) : Bst T (k + 1) (k : Int) := by
  rcases B with ⟨_, hB⟩ | ⟨c, e, _⟩
  · refine Or.inr ⟨k, rfl, by omega, h, fun j hj hth => ?_⟩
    rcases Nat.lt_or_ge j k with h1 | h1
    · rw [hB j h1] at hth; cases hth
    · obtain rfl : j = k := by omega
      unfold ltT; omega
  · omega
theorem Bst.keep {k c : Nat} (B : Bst T k (c : Int)) (h : ¬ ltT T k c) : Bst T (k + 1) (c : Int) := by
  rcases B with ⟨e, _⟩ | ⟨c', e, hc, hct, hB⟩
  · omega
  · obtain rfl : c = c' := by omega
    refine Or.inr ⟨c, rfl, by omega, hct, fun j hj hth => ?_⟩
    rcases Nat.lt_or_ge j k with h1 | h1
    · exact hB j h1 hth
    · obtain rfl : j = k := by omega
      exact h
theorem Bst.new {k c : Nat} (B : Bst T k (c : Int)) (hth : (T k).there = true) (h : ltT T k c) : Bst T (k + 1) (k : Int) := by
  rcases B with ⟨e, _⟩ | ⟨c', e, hc, hct, hB⟩
  · omega
  · obtain rfl : c = c' := by omega
    refine Or.inr ⟨k, rfl, by omega, hth, fun j hj hjt => ?_⟩
    rcases Nat.lt_or_ge j k with h1 | h1
    · have := hB j h1 hjt
      unfold ltT at *; omega
    · obtain rfl : j = k := by omega
      unfold ltT; omega
end
theorem walk (A Z : Option Addr) (n ca q cz : Nat) (W : Nat → Wk) (f : Nat → Int) (w : World) (hn : n ≤ maxLen) (hq : q ≤ maxLen) (rd : Ts w A n W) (rdZ : Rd w Z q (fun i => .int .u8 (f i)))
    (hf : ∀ i, 0 ≤ f i ∧ f i ≤ 255) :
    Calls Try.prog 7 #[.slice A n ca, .slice Z q cz] w fun r' w' => r' = .returned (.bool true) ∧ Below w.heap.size w w' := by
  have HMY := Lib.hid (fun X (hX : Below w.heap.size w X) => rmay17_c (cap := ca) (capB := 0) (rd.below hX) (ls_none X awS) (ltyped_none awS) hn (by unfold maxLen; omega) (decide (TOK n W ∧ LOK 0 awS)) rfl)
  have HMT := Lib.hid (fun X (hX : Below w.heap.size w X) => rtmay_c (cap := ca) (rd.below hX) hn (decide (TOK n W)) rfl)
  have HNW := Lib.hid (fun X (hX : Below w.heap.size w X) hT => cNew_c (m := 0) (S := awS) (E := none) (ca := ca) (ce := 0) (rd.below hX) (ls_none X awS) hT (lok_none awS) (ltyped_none awS))
  have RD := Lib.hid rd
  have RZ := Lib.hid rdZ
  have HF := Lib.hid hf
  clear rd rdZ hf
  unfold maxLen at hn hq
  go_enter Try.func7, Try.ntmps7
  go_wp2_with fail
  refine (awake_any _).mono ?_
  rintro e1 w1 ⟨rfl, hb1⟩
  have B1 := Lib.hid hb1
  clear hb1
  go_wp2_with fail
  refine (HMY.out _ B1.out).mono ?_
  rintro e2 w2 ⟨rfl, hb2⟩
  have B2 := Lib.hid (below_then B1.out hb2)
  clear hb2 HMY
  by_cases hS : TOK n W ∧ LOK 0 awS
  case neg =>
    rw [decide_eq_false hS]
    clear hS
    go_wp2_with fail
    go_ret
    exact ⟨rfl, B2.out⟩
  rw [decide_eq_true hS]
  have HT := Lib.hid hS.1
  have n32 := hS.1.1
  clear hS
  by_cases hq0 : q = 0
  · have z1 : ((q : Int) == 0) = true := beq_iff_eq.2 (by omega)
    have z1' : (q == 0) = true := beq_iff_eq.2 hq0
    go_wp2_with fail
    go_ret
    exact ⟨rfl, B2.out⟩
  have z1 : ((q : Int) == 0) = false := beq_eq_false_iff_ne.2 (by omega)
  have z1' : (q == 0) = false := beq_eq_false_iff_ne.2 hq0
  by_cases hn0 : n = 0
  · have z2 : ((n : Int) == 0) = true := beq_iff_eq.2 (by omega)
    have z2' : (n == 0) = true := beq_iff_eq.2 hn0
    go_wp2_with fail
    go_ret
    exact ⟨rfl, B2.out⟩
  have z2 : ((n : Int) == 0) = false := beq_eq_false_iff_ne.2 (by omega)
  have z2' : (n == 0) = false := beq_eq_false_iff_ne.2 hn0
  have MT := Lib.hid (HMT.out _ B2.out)
  rw [decide_eq_true HT.out] at MT
  clear HMT
  go_wp2_with fail
  refine MT.out.mono ?_
  rintro e3 w3 ⟨rfl, hb3⟩
  have B3 := Lib.hid (below_then B2.out hb3)
  have NC := Lib.hid (HNW.out w3 B3.out HT.out)
  clear HNW hb3 MT
  go_wp2_with fail
  refine NC.out.mono ?_
  rintro e5 w5 ⟨P, V5, rfl, en, em, hV, s5⟩
  obtain ⟨pc, pq, pA, pk, pn, pE, pe, pm⟩ := P
  dsimp only at en em
  subst en em
  have G0 := Lib.hid (Gh.anew HT.out (lok_none awS) hV)
  have s6 := ((St.begin w).stay B3.out).cpu s5
  obtain ⟨iU, hiU, hzU, hsU, hbU⟩ := info3c (P := Try.prog) (t := 3) (z := .int .i64 0) (s := 1) (b := 8) (by kernel_rfl)
  have mU := fun W => run_make_rowN (P := Try.prog) 37 3 iU (.int .i64 0) Try.underlying37 hiU hzU rfl hsU .i64 .i64 pn (by rw [hbU]; omega) (by omega) W
  have s7 := (s6.made_row 3 pn (.int .i64 0))
  obtain ⟨hb, hhb⟩ : ∃ hb, w5.heap.size = hb := ⟨_, rfl⟩
  rw [hhb, List.append_nil] at s7
  have S7 := Lib.hid ((show St w None _ ([ArrR hb 3 pn (fun _ => .int .i64 0)] ++ CpuL ⟨pc, pq, pA, pk, pn, pE, pe, 0⟩ (fun j => tk0 (W j)) V5 0 QS.new) from s7.comm).arr_like (V' := whenV (fun j => tk0 (W j))) 0 rfl (fun j hj => rfl))
  have S8 := Lib.hid (show St w None _ (CpuL ⟨pc, pq, pA, pk, pn, pE, pe, 0⟩ (fun j => tk0 (W j)) V5 0 QS.new ++ [ArrR hb 3 pn (whenV (fun j => tk0 (W j)))]) from
    (show St w None _ ([ArrR hb 3 pn (whenV (fun j => tk0 (W j)))] ++ CpuL ⟨pc, pq, pA, pk, pn, pE, pe, 0⟩ (fun j => tk0 (W j)) V5 0 QS.new) from S7.out).comm)
  have O0 := Lib.hid (show UO ((0 : Nat) : Int) (fun j => tk0 (W j)) QS.new from ⟨fun p => List.Pairwise.nil, fun p j hj => by cases hj⟩)
  clear s6 s7 s5 NC hV B1 S7
  go_wp2_with fail
  clear mU
  go_loopw [8, 9, 10, 11, 12, 13, 14, 15, 16] (fun x8 x9 x10 x11 x12 x13 x14 x15 x16 wr => ∃ (t : Nat) (T : Nat → CTk) (V : Nat → Sv) (s : QS) (h : Nat → Int) (r b : Nat → Nat → Bool), x8 = .int .i64 (t : Int) ∧ t ≤ 100 ∧ UO (t : Int) T s ∧ Gh pn 0 W awS t T V s h r b ∧ St w None wr (CpuL ⟨pc, pq, pA, pk, pn, pE, pe, 0⟩ T V (t : Int) s ++ [ArrR hb 3 pn (whenV T)])) (fun x _ _ _ _ _ _ _ _ _ => 100 - (intOf x).toNat)
  case atStart => exact ⟨0, _, _, _, _, _, _, rfl, by omega, O0.out, G0.out, S8.out⟩
  case round =>
  clear G0 S8 O0
  obtain ⟨t, T, V, s, h, r, b, rfl, ht, hO, hG, hK⟩ := hrel
  have HO := Lib.hid hO
  have HG := Lib.hid hG
  have K0 := Lib.hid hK
  clear hO hG hK
  by_cases hlt : t < 100
  case neg =>
    have y0 : decide ((t : Int) < 100) = false := decide_eq_false (by omega)
    have y0' : decide (t < 100) = false := decide_eq_false hlt
    have BB := K0.out.below
    go_wp2_with fail
    go_ret
    exact ⟨rfl, BB⟩
  have y0 : decide ((t : Int) < 100) = true := decide_eq_true (by omega)
  have y0' : decide (t < 100) = true := decide_eq_true hlt
  obtain ⟨sb, of2, rfl, hsb, hcell⟩ := RZ.out (by omega)
  have hkn : t % q < q := Nat.mod_lt _ (by omega)
  have hnp : 0 < q := by omega
  have hnp2 : 0 < pn := by omega
  have hy := (K0.out.below.cell (p := ⟨sb, of2 + t % q, none⟩) hsb).trans (hcell _ hkn)
  dsimp only at hy
  obtain ⟨f0, f1⟩ := HF.out (t % q)
  generalize f (t % q) = fv at *
  have mw : IntKind.i64.wrap fv = fv := IntWalk.i64_in _ ⟨by omega, by omega⟩
  obtain ⟨id, hid⟩ : ∃ id : Nat, fv % (pn : Int) = (id : Int) := ⟨(fv % (pn : Int)).toNat, by have := Int.emod_nonneg fv (show (pn : Int) ≠ 0 by omega); omega⟩
  have hidn : id < pn := by have := Int.emod_lt_of_pos fv (show (0 : Int) < pn by omega); omega
  have m1 : Int.tmod fv (pn : Int) = (id : Int) := by rw [Int.tmod_eq_emod_of_nonneg f0]; exact hid
  obtain ⟨d4, hd4⟩ : ∃ d4 : Nat, (t : Int) % 4 = (d4 : Int) := ⟨t % 4, by omega⟩
  have d44 : d4 < 4 := by omega
  have m2 : Int.tmod (t : Int) 4 = (d4 : Int) := by rw [Int.tmod_eq_emod_of_nonneg (by omega)]; exact hd4
  have m3 : IntKind.u64.wrap (d4 : Int) = (d4 : Int) := IntWalk.u64_in _ ⟨by omega, by omega⟩
  have m4 : IntKind.u64.wrap (1 + (d4 : Int)) = 1 + (d4 : Int) := IntWalk.u64_in _ ⟨by omega, by omega⟩
  have RC := Lib.hid (gRelease (p := ⟨pc, pq, pA, pk, pn, pE, pe, 0⟩) (id := (id : Int)) (dem := 1 + (d4 : Int)) HG.out K0.out (by omega) (by omega))
  dsimp only at RC
  have y9 : IntKind.i64.wrap ((t : Int) + 1) = (t : Int) + 1 := IntWalk.i64_in _ ⟨by omega, by omega⟩
  clear hcell K0
  go_wp2_with fail
  refine RC.out.mono ?_
  rintro e6 w6 ⟨f2, T2, s2, r2, hR, rfl, hK2⟩
  have G2 := Lib.hid hR.G
  by_cases hf0 : f2 = 0
  · subst hf0
    have hyes := hR.yes rfl
    simp only [Int.toNat_natCast] at hyes
    obtain ⟨-, -, -, hth, -, hT2, hs2, -⟩ := hyes
    have O2 := Lib.hid (show UO ((t : Int) + 1) T2 s2 by rw [hT2, hs2]; exact HO.out.release HG.out hidn _ hth)
    have K4 := hK2.comm
    have c0 := K4.arr_cell 0 rfl hidn
    have c1 := K4.arr_frozen 0 rfl id
    unfold whenV at c0
    have u0 : (0 : Int) ≤ (id : Int) := by omega
    have u1 : (id : Int) < (pn : Int) := by omega
    have K5 := (K4.arr_set 0 rfl hidn (.int .i64 (t : Int))).arr_like (V' := whenV T2) 0 rfl (fun j hj => by
      show whenV T2 j = if j = id then .int .i64 (t : Int) else whenV T j
      unfold whenV
      rw [hT2]
      by_cases e : j = id
      · subst e; rw [updK_self, if_pos rfl]; rfl
      · rw [updK_ne T _ e, if_neg e])
    have K3 := Lib.hid (show St w None (w6.setCell ⟨hb, id, none⟩ (.int .i64 (t : Int))) (CpuL ⟨pc, pq, pA, pk, pn, pE, pe, 0⟩ T2 V (t : Int) s2 ++ [ArrR hb 3 pn (whenV T2)]) from K5.comm)
    clear RC hR hT2 hs2 hth K4 K5 hK2 HO HG
    go_wp2_with fail
    go_loopw [10, 11, 12, 13, 14] (fun x10 x11 x12 x13 x14 wi => ∃ (k : Nat) (x : Int), x10 = .int .i64 x ∧ x11 = .int .i64 (k : Int) ∧ k ≤ pn ∧ Bst T2 k x ∧ St w None wi (CpuL ⟨pc, pq, pA, pk, pn, pE, pe, 0⟩ T2 V (t : Int) s2 ++ [ArrR hb 3 pn (whenV T2)])) (fun _ x _ _ _ _ => pn - (intOf x).toNat)
    case atStart => exact ⟨0, -1, rfl, rfl, by omega, Or.inl ⟨rfl, fun j hj => absurd hj (by omega)⟩, K3.out⟩
    case round =>
    clear K3
    obtain ⟨k, x, rfl, rfl, hk, hB, hK⟩ := hrel
    have HB := Lib.hid hB
    have KK := Lib.hid hK
    clear hB hK
    by_cases hkm : k < pn
    case neg =>
      obtain rfl : k = pn := by omega
      have y1 : decide ((k : Int) < (k : Int)) = false := decide_eq_false (by omega)
      have TC := Lib.hid (gTick (p := ⟨pc, pq, pA, pk, k, pE, pe, 0⟩) G2.out KK.out (by omega))
      clear KK
      go_wp2_with fail
      refine TC.out.mono ?_
      rintro e7 w7 ⟨who, ld, lc, T', V', s', D, cd, C, cc, M, cm, nd, nc, nm, hP, hG2, -, -, -, rfl, hK2⟩
      obtain rfl : who = x := Bst.runs G2.out O2.out hP HB.out
      obtain ⟨hO3, hrel⟩ := O2.out.tick G2.out hP
      have O3 := Lib.hid hO3
      have G3 := Lib.hid hG2
      have K3 := hK2.box 39 #[.int .i64 who, .slice D nd cd, .slice C nc cc, .slice M nm cm]
      obtain ⟨g7, hg7⟩ : ∃ g, w7.heap.size = g := ⟨_, rfl⟩
      rw [hg7, List.append_assoc] at K3
      have K4 := K3.comm
      obtain ⟨a0, a1, a2, a3⟩ := (K4.blk 1 rfl).four4
      have K6 := Lib.hid ((K4.arr_like (V' := whenV T') 0 rfl (fun j hj => by unfold whenV; rw [hrel j])).drop 1 (by simp))
      clear K4 K3 hK2 hG2 TC hP hO3 hrel HB
      go_wp2_with fail
      go_roundw
      case rel => exact ⟨t + 1, _, _, _, _, _, _, by go_num, by omega, O3.out, G3.out, K6.out.comm⟩
      case measure => simp [intOf]; omega
    have y1 : decide ((k : Int) < (pn : Int)) = true := decide_eq_true (by omega)
    have y1' : decide (k < pn) = true := decide_eq_true hkm
    have JC := Lib.hid (cJob_c (id := (k : Int)) KK.out)
    have v0 : (0 : Int) ≤ (k : Int) := by omega
    have v1 : (k : Int) < (pn : Int) := by omega
    clear KK
    dsimp only at JC
    cases hth : (T2 k).there with
    | false =>
      rw [jobA_no hth] at JC
      have B2 := Lib.hid (HB.out.skip hth)
      clear hth
      go_wp2_with fail
      refine JC.out.mono ?_
      rintro e7 w7 ⟨rfl, hK7⟩
      have K0 := Lib.hid hK7
      clear JC hK7
      go_wp2_with fail
      go_quiet (fail)
      have K1 := Lib.hid (K0.out.drewN nq)
      clear K0
      go_wp2_with fail
      go_roundw
      case rel => exact ⟨k + 1, x, rfl, by go_num, by omega, B2.out, K1.out⟩
      case measure => simp [intOf]; omega
    | true =>
      rw [jobA_yes hkm hth] at JC
      generalize (T2 k).ran = ja at JC
      generalize (T2 k).unt = jb at JC
      go_wp2_with fail
      refine JC.out.mono ?_
      rintro e7 w7 ⟨rfl, hK7⟩
      have K0 := Lib.hid hK7
      obtain ⟨ib, off, rfl, p0, -, -, -⟩ := RD.out.at_ hK7.below hkm
      have q0 := hK7.comm.arr_cell 0 rfl hkm
      unfold whenV at q0
      have ew := (G2.out.ws k hkm).1
      obtain ⟨P, hP⟩ : ∃ P, (W k).prio = P := ⟨_, rfl⟩
      obtain ⟨R, hR⟩ : ∃ R, (T2 k).rel = R := ⟨_, rfl⟩
      rw [hP] at p0 ew
      rw [hR] at q0
      rcases HB.out with ⟨rfl, hB⟩ | ⟨c, rfl, hc, hct, hB⟩
      · have B2 := Lib.hid (Bst.first HB.out hth)
        clear JC hK7 hth hB HB hP hR ew
        go_wp2_with fail
        go_quiet (fail)
        have K1 := Lib.hid (K0.out.drewN nq)
        clear K0
        go_wp2_with fail
        go_roundw
        case rel => exact ⟨k + 1, _, rfl, by go_num, by omega, B2.out, K1.out⟩
        case measure => simp [intOf]; omega
      · have hcn : c < pn := by omega
        obtain ⟨ib', off', hA', p1, -, -, -⟩ := RD.out.at_ hK7.below hcn
        injection hA' with hA'
        injection hA' with ha1 ha2
        subst ha1 ha2
        have q1 := hK7.comm.arr_cell 0 rfl hcn
        unfold whenV at q1
        have ew2 := (G2.out.ws c hcn).1
        obtain ⟨P2, hP2⟩ : ∃ P, (W c).prio = P := ⟨_, rfl⟩
        obtain ⟨R2, hR2⟩ : ∃ R, (T2 c).rel = R := ⟨_, rfl⟩
        rw [hP2] at p1 ew2
        rw [hR2] at q1
        have u0 : (0 : Int) ≤ (c : Int) := by omega
        have u1 : (c : Int) < (pn : Int) := by omega
        have u2 : decide ((c : Int) < 0) = false := decide_eq_false (by omega)
        have LT := Lib.hid (show ltT T2 k c ↔ P < P2 ∨ P = P2 ∧ R < R2 from by unfold ltT; rw [ew, ew2, hR, hR2])
        have HTH := Lib.hid hth
        clear JC hK7 hth hB hP hR ew hP2 hR2 ew2 hct
        by_cases h1 : P < P2
        · have w1 : decide (P < P2) = true := decide_eq_true h1
          have B2 := Lib.hid (HB.out.new HTH.out (LT.out.2 (Or.inl h1)))
          clear HB LT HTH
          go_wp2_with fail
          go_quiet (fail)
          have K1 := Lib.hid (K0.out.drewN nq)
          clear K0
          go_wp2_with fail
          go_roundw
          case rel => exact ⟨k + 1, _, rfl, by go_num, by omega, B2.out, K1.out⟩
          case measure => simp [intOf]; omega
        have w1 : decide (P < P2) = false := decide_eq_false h1
        by_cases h2 : P = P2
        · have w2 : (P == P2) = true := beq_iff_eq.2 h2
          by_cases h3 : R < R2
          · have w3 : decide (R < R2) = true := decide_eq_true h3
            have B2 := Lib.hid (HB.out.new HTH.out (LT.out.2 (Or.inr ⟨h2, h3⟩)))
            clear HB LT HTH h1 h2 h3
            go_wp2_with fail
            go_quiet (fail)
            have K1 := Lib.hid (K0.out.drewN nq)
            clear K0
            go_wp2_with fail
            go_roundw
            case rel => exact ⟨k + 1, _, rfl, by go_num, by omega, B2.out, K1.out⟩
            case measure => simp [intOf]; omega
          · have w3 : decide (R < R2) = false := decide_eq_false h3
            have B2 := Lib.hid (HB.out.keep fun h => by have := LT.out.1 h; omega)
            clear HB LT HTH h1 h2 h3
            go_wp2_with fail
            go_quiet (fail)
            have K1 := Lib.hid (K0.out.drewN nq)
            clear K0
            go_wp2_with fail
            go_roundw
            case rel => exact ⟨k + 1, _, rfl, by go_num, by omega, B2.out, K1.out⟩
            case measure => simp [intOf]; omega
        · have w2 : (P == P2) = false := beq_eq_false_iff_ne.2 h2
          have B2 := Lib.hid (HB.out.keep fun h => by have := LT.out.1 h; omega)
          clear HB LT HTH h1 h2
          go_wp2_with fail
          go_quiet (fail)
          have K1 := Lib.hid (K0.out.drewN nq)
          clear K0
          go_wp2_with fail
          go_roundw
          case rel => exact ⟨k + 1, _, rfl, by go_num, by omega, B2.out, K1.out⟩
          case measure => simp [intOf]; omega
  · have w0' : (f2 == 0) = false := beq_eq_false_iff_ne.2 hf0
    obtain ⟨hT2, hs2, hr2⟩ := hR.no hf0
    have O2 := Lib.hid (show UO ((t : Int) + 1) T2 s2 by rw [hT2, hs2]; exact HO.out.more (by omega))
    rw [← hT2] at hK2
    have K3 := Lib.hid hK2
    clear RC hR hT2 hs2 hr2 hK2 hf0 HO HG
    go_wp2_with fail
    go_loopw [10, 11, 12, 13, 14] (fun x10 x11 x12 x13 x14 wi => ∃ (k : Nat) (x : Int), x10 = .int .i64 x ∧ x11 = .int .i64 (k : Int) ∧ k ≤ pn ∧ Bst T2 k x ∧ St w None wi (CpuL ⟨pc, pq, pA, pk, pn, pE, pe, 0⟩ T2 V (t : Int) s2 ++ [ArrR hb 3 pn (whenV T2)])) (fun _ x _ _ _ _ => pn - (intOf x).toNat)
    case atStart => exact ⟨0, -1, rfl, rfl, by omega, Or.inl ⟨rfl, fun j hj => absurd hj (by omega)⟩, K3.out⟩
    case round =>
    clear K3
    obtain ⟨k, x, rfl, rfl, hk, hB, hK⟩ := hrel
    have HB := Lib.hid hB
    have KK := Lib.hid hK
    clear hB hK
    by_cases hkm : k < pn
    case neg =>
      obtain rfl : k = pn := by omega
      have y1 : decide ((k : Int) < (k : Int)) = false := decide_eq_false (by omega)
      have TC := Lib.hid (gTick (p := ⟨pc, pq, pA, pk, k, pE, pe, 0⟩) G2.out KK.out (by omega))
      clear KK
      go_wp2_with fail
      refine TC.out.mono ?_
      rintro e7 w7 ⟨who, ld, lc, T', V', s', D, cd, C, cc, M, cm, nd, nc, nm, hP, hG2, -, -, -, rfl, hK2⟩
      obtain rfl : who = x := Bst.runs G2.out O2.out hP HB.out
      obtain ⟨hO3, hrel⟩ := O2.out.tick G2.out hP
      have O3 := Lib.hid hO3
      have G3 := Lib.hid hG2
      have K3 := hK2.box 39 #[.int .i64 who, .slice D nd cd, .slice C nc cc, .slice M nm cm]
      obtain ⟨g7, hg7⟩ : ∃ g, w7.heap.size = g := ⟨_, rfl⟩
      rw [hg7, List.append_assoc] at K3
      have K4 := K3.comm
      obtain ⟨a0, a1, a2, a3⟩ := (K4.blk 1 rfl).four4
      have K6 := Lib.hid ((K4.arr_like (V' := whenV T') 0 rfl (fun j hj => by unfold whenV; rw [hrel j])).drop 1 (by simp))
      clear K4 K3 hK2 hG2 TC hP hO3 hrel HB
      go_wp2_with fail
      go_roundw
      case rel => exact ⟨t + 1, _, _, _, _, _, _, by go_num, by omega, O3.out, G3.out, K6.out.comm⟩
      case measure => simp [intOf]; omega
    have y1 : decide ((k : Int) < (pn : Int)) = true := decide_eq_true (by omega)
    have y1' : decide (k < pn) = true := decide_eq_true hkm
    have JC := Lib.hid (cJob_c (id := (k : Int)) KK.out)
    have v0 : (0 : Int) ≤ (k : Int) := by omega
    have v1 : (k : Int) < (pn : Int) := by omega
    clear KK
    dsimp only at JC
    cases hth : (T2 k).there with
    | false =>
      rw [jobA_no hth] at JC
      have B2 := Lib.hid (HB.out.skip hth)
      clear hth
      go_wp2_with fail
      refine JC.out.mono ?_
      rintro e7 w7 ⟨rfl, hK7⟩
      have K0 := Lib.hid hK7
      clear JC hK7
      go_wp2_with fail
      go_quiet (fail)
      have K1 := Lib.hid (K0.out.drewN nq)
      clear K0
      go_wp2_with fail
      go_roundw
      case rel => exact ⟨k + 1, x, rfl, by go_num, by omega, B2.out, K1.out⟩
      case measure => simp [intOf]; omega
    | true =>
      rw [jobA_yes hkm hth] at JC
      generalize (T2 k).ran = ja at JC
      generalize (T2 k).unt = jb at JC
      go_wp2_with fail
      refine JC.out.mono ?_
      rintro e7 w7 ⟨rfl, hK7⟩
      have K0 := Lib.hid hK7
      obtain ⟨ib, off, rfl, p0, -, -, -⟩ := RD.out.at_ hK7.below hkm
      have q0 := hK7.comm.arr_cell 0 rfl hkm
      unfold whenV at q0
      have ew := (G2.out.ws k hkm).1
      obtain ⟨P, hP⟩ : ∃ P, (W k).prio = P := ⟨_, rfl⟩
      obtain ⟨R, hR⟩ : ∃ R, (T2 k).rel = R := ⟨_, rfl⟩
      rw [hP] at p0 ew
      rw [hR] at q0
      rcases HB.out with ⟨rfl, hB⟩ | ⟨c, rfl, hc, hct, hB⟩
      · have B2 := Lib.hid (Bst.first HB.out hth)
        clear JC hK7 hth hB HB hP hR ew
        go_wp2_with fail
        go_quiet (fail)
        have K1 := Lib.hid (K0.out.drewN nq)
        clear K0
        go_wp2_with fail
        go_roundw
        case rel => exact ⟨k + 1, _, rfl, by go_num, by omega, B2.out, K1.out⟩
        case measure => simp [intOf]; omega
      · have hcn : c < pn := by omega
        obtain ⟨ib', off', hA', p1, -, -, -⟩ := RD.out.at_ hK7.below hcn
        injection hA' with hA'
        injection hA' with ha1 ha2
        subst ha1 ha2
        have q1 := hK7.comm.arr_cell 0 rfl hcn
        unfold whenV at q1
        have ew2 := (G2.out.ws c hcn).1
        obtain ⟨P2, hP2⟩ : ∃ P, (W c).prio = P := ⟨_, rfl⟩
        obtain ⟨R2, hR2⟩ : ∃ R, (T2 c).rel = R := ⟨_, rfl⟩
        rw [hP2] at p1 ew2
        rw [hR2] at q1
        have u0 : (0 : Int) ≤ (c : Int) := by omega
        have u1 : (c : Int) < (pn : Int) := by omega
        have u2 : decide ((c : Int) < 0) = false := decide_eq_false (by omega)
        have LT := Lib.hid (show ltT T2 k c ↔ P < P2 ∨ P = P2 ∧ R < R2 from by unfold ltT; rw [ew, ew2, hR, hR2])
        have HTH := Lib.hid hth
        clear JC hK7 hth hB hP hR ew hP2 hR2 ew2 hct
        by_cases h1 : P < P2
        · have w1 : decide (P < P2) = true := decide_eq_true h1
          have B2 := Lib.hid (HB.out.new HTH.out (LT.out.2 (Or.inl h1)))
          clear HB LT HTH
          go_wp2_with fail
          go_quiet (fail)
          have K1 := Lib.hid (K0.out.drewN nq)
          clear K0
          go_wp2_with fail
          go_roundw
          case rel => exact ⟨k + 1, _, rfl, by go_num, by omega, B2.out, K1.out⟩
          case measure => simp [intOf]; omega
        have w1 : decide (P < P2) = false := decide_eq_false h1
        by_cases h2 : P = P2
        · have w2 : (P == P2) = true := beq_iff_eq.2 h2
          by_cases h3 : R < R2
          · have w3 : decide (R < R2) = true := decide_eq_true h3
            have B2 := Lib.hid (HB.out.new HTH.out (LT.out.2 (Or.inr ⟨h2, h3⟩)))
            clear HB LT HTH h1 h2 h3
            go_wp2_with fail
            go_quiet (fail)
            have K1 := Lib.hid (K0.out.drewN nq)
            clear K0
            go_wp2_with fail
            go_roundw
            case rel => exact ⟨k + 1, _, rfl, by go_num, by omega, B2.out, K1.out⟩
            case measure => simp [intOf]; omega
          · have w3 : decide (R < R2) = false := decide_eq_false h3
            have B2 := Lib.hid (HB.out.keep fun h => by have := LT.out.1 h; omega)
            clear HB LT HTH h1 h2 h3
            go_wp2_with fail
            go_quiet (fail)
            have K1 := Lib.hid (K0.out.drewN nq)
            clear K0
            go_wp2_with fail
            go_roundw
            case rel => exact ⟨k + 1, _, rfl, by go_num, by omega, B2.out, K1.out⟩
            case measure => simp [intOf]; omega
        · have w2 : (P == P2) = false := beq_eq_false_iff_ne.2 h2
          have B2 := Lib.hid (HB.out.keep fun h => by have := LT.out.1 h; omega)
          clear HB LT HTH h1 h2
          go_wp2_with fail
          go_quiet (fail)
          have K1 := Lib.hid (K0.out.drewN nq)
          clear K0
          go_wp2_with fail
          go_roundw
          case rel => exact ⟨k + 1, _, rfl, by go_num, by omega, B2.out, K1.out⟩
          case measure => simp [intOf]; omega

set_option maxRecDepth 100000 in
theorem lifted (os : Os) (started : os.Started) (H : Type) (enc : TypeId × Value → H) :
    ReturnsInHanded {} Try.checked os 7 .any (Rows.cpuUrgentSpec.pre6 enc Try.prog Try.f7 Rows.cpuUrgentRow.domain false) (Rows.cpuUrgentSpec.post enc Try.prog Try.f7 false true false false) := by
  refine law_lifted (C := Try.checked) (tb := 4) own started (by kernel_rfl) Try.func7
    (ChangeSpec.witness6 (enc := enc) (C := Try.checked) false ⟨#[], #[.slice none 0 0, .slice none 0 0], []⟩ 8 (by kernel_rfl) (by kernel_rfl) (by kernel_rfl) (by kernel_rfl)) laid (by kernel_rfl) (by kernel_rfl) Try.underlying4 rfl ?_
  intro W base args ds ps hval0 hA0 hlt
  have hval : ∀ (j : Nat) t v, Try.f7.params[j]? = some t → args[j]? = some v → Value.okWide Try.prog W .any base t v := hval0
  have hA : DataW.TrodAll enc Try.prog W 0 (fun _ => true) true Try.f7.params.toList args.toList ds ps := hA0
  clear hA0 hval0
  rw [Try.params7] at hA hval
  obtain ⟨v0, vs0, d0, ds0, p0, q0, hargs, rfl, rfl, h0, r0⟩ := trodAll_cons hA
  obtain ⟨v1, vs1, d1, ds1, p1, q1, rfl, rfl, rfl, h1, r1⟩ := trodAll_cons r0
  obtain ⟨rfl, rfl, rfl⟩ := trodAll_nil r1
  obtain rfl : args = #[v0, v1] := by cases args; simp_all
  obtain ⟨A0, n0, cap0, V0, rfl, le0, mx0, rd0, lf0⟩ := open_slice_spots (m := 4) (d := 20) (l := [(0, 3), (1, 31), (2, 31), (3, 31)]) Try.underlying22 (by kernel_rfl) (by decide) (by kernel_rfl) (hval 0 22 v0 rfl rfl) h0
  have f0_0 := fun j hj => leaf_int Try.underlying3 (lf0 0 3 (by simp) j hj)
  have f0_1 := fun j hj => leaf_int Try.underlying31 (lf0 1 31 (by simp) j hj)
  have f0_2 := fun j hj => leaf_int Try.underlying31 (lf0 2 31 (by simp) j hj)
  have f0_3 := fun j hj => leaf_int Try.underlying31 (lf0 3 31 (by simp) j hj)
  obtain ⟨A1, n1, cap1, f1, rfl, le1, mx1, wf1, rd1⟩ := open_slice_ints Try.underlying43 Try.underlying5 (by kernel_rfl) (hval 1 43 v1 rfl rfl) h1
  refine ⟨⟨rfl, rfl, rfl⟩, ?_⟩
  obtain ⟨T, hT⟩ := Go.Deep.choose_lt (n := n0) (p := fun j (d : Wk) => V0 j 0 = .int .i64 d.prio ∧ V0 j 1 = .int .u64 d.cost ∧ V0 j 2 = .int .u64 d.per ∧ V0 j 3 = .int .u64 d.dead) (fun j hj => by
    obtain ⟨x0, h0, -⟩ := f0_0 j hj
    obtain ⟨x1, h1, -⟩ := f0_1 j hj
    obtain ⟨x2, h2, -⟩ := f0_2 j hj
    obtain ⟨x3, h3, -⟩ := f0_3 j hj
    exact ⟨⟨x0, x1, x2, x3⟩, h0, h1, h2, h3⟩)
  exact walk A0 A1 n0 cap0 n1 cap1 T f1 W (by omega) (by omega) (ts_of rd0 hT) rd1 (fun i => bounds_u8 (wf1 i))

theorem over : Rows.cpuUrgentRow.holds Try.pinned (OpenSpec.ofChange Rows.cpuUrgentSpec) :=
  OpenClaim.holds_of_wide 7 Try.f7 rfl rfl rfl rfl rfl rfl rfl ⟨rfl, rfl, rfl, rfl, rfl⟩ rfl rfl rfl rfl rfl (by kernel_rfl) Try.func7 (by kernel_rfl)
    (of_decide_eq_true (by kernel_rfl)) (by unfold Func.isWrapper; first | (rw [if_pos (by decide +kernel)]; kernel_rfl) | (rw [if_neg (by decide +kernel)]; exact ⟨rfl, rfl⟩))
    (fun os started H enc _ => lifted os started H enc)
theorem proved : Rows.CpuUrgentSaid := over
#print axioms proved
end Go.Proofs.Ytdnonhhphkmlmaa.cpuUrgent
