/-
  For every cost and script LifeOnce answers true, and changes nothing: each request that was opened has just one outcome, told when its abort time comes, at the latest. No condition.
-/
import Derived.Test.YthdhfjcgboglfaaRows
import Derived.Test.YthdhfjcgboglfaaFr
import Derived.Test.YthdhfjcgboglfaaLifeX
import Derived.Deep.DeepCutAuto
import Derived.Deep.CutBlock
import Derived.Test.YthdhfjcgboglfaaOpen
import Derived.Test.YthdhfjcgboglfaaRd
namespace Go.Proofs.Ythdhfjcgboglfaa.lifeOnce
open Go.ChangeShapes Go.WideShapes Go.ChangeAt Go.RowKit
set_option linter.unusedVariables false
theorem own : ownKnob Try.prog.godebug = none := by kernel_rfl
theorem laid : laidOutB Try.prog = true := by kernel_rfl
set_option maxRecDepth 100000
set_option maxHeartbeats 4000000
theorem u64_info : (Try.prog.info? 22).map (fun i => (i.zero, i.size, i.bytes)) = some (some (.int .u64 0), 1, 8) := by kernel_rfl
theorem opn_id {s : Bk} {id d : Int} (h : opnA s id d ≠ 0) : s.opn id d = s := by unfold Bk.opn; rw [if_neg h]
theorem goA_le {a u : Int} (h0 : a ≤ u) (h1 : u < 4611686018427387904) : goA a u = 0 := by unfold goA; rw [if_pos h1, if_neg (by omega)]
theorem ansN {s : Bk} {x : Int} (bad : Bool) : (s.ans x 5 bad).now = s.now := by
  unfold Bk.ans Bk.out
  rw [if_neg (by omega)]
  split <;> rfl
theorem outN {s : Bk} {f : Ft} : (s.out f).now = s.now := by unfold Bk.out; split <;> rfl
/-- A new number of their times, where one is opened. -/
theorem row_up (O : Nat → Int) (x : Nat) (d : Int) : (fun j => if j = x then Value.int .u64 d else Value.int .u64 (O j)) = fun j => Value.int .u64 (upO O x d j) := by
  funext j
  unfold upO
  by_cases h : j = x
  · rw [if_pos h, if_pos h]
  · rw [if_neg h, if_neg h]
theorem walk (a : Int) (A : Option Addr) (n cap : Nat) (V : Nat → Nat → Value) (w : World) (ba : 0 ≤ a ∧ a ≤ 255) (hm : n ≤ maxLen) (rd : RdM w A n 4 V) (hV : ∀ j, j < n → ∃ z i p t : Int, V j 0 = .int .i64 z ∧ V j 1 = .int .i64 i ∧ V j 2 = .int .u64 p ∧ V j 3 = .int .i64 t ∧ wfI i ∧ 0 ≤ p) :
    Calls Try.prog 4 #[.int .u8 a, .slice A n cap] w fun r w' => r = .returned (.bool true) ∧ Below w.heap.size w w' := by
  unfold maxLen at hm
  have RD := Lib.hid rd
  have HV := Lib.hid hV
  clear rd hV
  have cb : 0 ≤ a % 20 ∧ a % 20 < 20 := ⟨Int.emod_nonneg _ (by omega), Int.emod_lt_of_pos _ (by omega)⟩
  obtain ⟨c, hc⟩ : ∃ c, 1 + a % 20 = c := ⟨_, rfl⟩
  have hc1 : 1 ≤ c ∧ c ≤ 20 := by omega
  obtain ⟨iU, hiU, hzU, hsU, hbU⟩ := info3w u64_info
  have mk : ∀ W : World, (Instr.makeSlice 48 (.int .i64 20) (.int .i64 20)).run Try.prog W = .ok (.slice (some ⟨W.heap.size, 0, none⟩) 20 20) (W.alloc (.cells (madeCells #[.int .u64 0] 20) 22)) := fun W => run_make_rowN (P := Try.prog) 48 22 iU (.int .u64 0) Try.underlying48 hiU hzU rfl hsU .i64 .i64 20 (by rw [hbU]; omega) (by omega) W
  have AW := Lib.hid (awake_c w)
  go_enter Try.func4, Try.ntmps4
  go_wp2_with fail
  refine AW.out.mono ?_
  rintro e w1 ⟨rfl, s1⟩
  have N1 := Lib.hid (bNew_o (c := c) s1 (by unfold newA; rw [if_neg (by omega)]))
  clear AW s1
  go_wp2_with fail
  refine N1.out.mono ?_
  rintro e w2 ⟨g, rfl, s2⟩
  obtain ⟨h, hh⟩ : ∃ h, w2.heap.size = h := ⟨_, rfl⟩
  have s3 : St w None _ [BookR g (Bk.new c), ArrR w2.heap.size 22 20 (fun _ => .int .u64 0)] := s2.made_row 22 20 (.int .u64 0)
  rw [hh] at s3
  have S3 := Lib.hid s3
  clear N1 s2 s3
  go_wp2_with fail
  have HN0 := Lib.hid (show nzO (fun _ => 0) = 0 from cf_none 20)
  go_loopw [8, 10, 11] (fun x8 x10 x11 wr => ∃ (k : Nat) (s : Bk) (O : Nat → Int) (now : Int), k ≤ n ∧ k ≤ 150 ∧ x8 = .int .u64 now ∧ x10 = .int .i64 (nzO O : Int) ∧ x11 = .int .i64 (k : Int) ∧ 0 ≤ now ∧ now ≤ k ∧ s.now = now ∧ s.un = [] ∧ OneW s O c ∧ St w None wr [BookR g s, ArrR h 22 20 (fun j => .int .u64 (O j))]) (fun _ _ i _ => n - (intOf i).toNat)
  case atStart => exact ⟨0, Bk.new c, fun _ => 0, 0, by omega, by omega, rfl, by rw [HN0.out]; rfl, rfl, by omega, by omega, rfl, rfl, OneW.new c, S3.out⟩
  case round =>
  clear S3 HN0 hh
  obtain ⟨k, s, O, now, hk, hk2, rfl, rfl, rfl, hn0, hn1, hnow, hun, hone, sr⟩ := hrel
  obtain ⟨Sx, ok, hxx⟩ := sr.get 0 rfl
  clear hxx
  have HUN := Lib.hid hun
  have HNOW := Lib.hid hnow
  have HONE := Lib.hid hone
  have HOK := Lib.hid ok
  have HNZ := Lib.hid (show nzO O ≤ 20 from cf_le _ _)
  have un0 : s.un.length = 0 := by rw [hun]; rfl
  by_cases hlt : k < n ∧ k < 150
  · obtain ⟨hlt, hlt2⟩ := hlt
    have z1 : decide ((k : Int) < (n : Int)) = true := decide_eq_true (by omega)
    have z1' : decide (k < n) = true := decide_eq_true hlt
    have z2 : decide ((k : Int) < 150) = true := decide_eq_true (by omega)
    have z2' : decide (k < 150) = true := decide_eq_true hlt2
    obtain ⟨ib, off, rfl, e0, e1, e2, e3⟩ := RD.out.at4 sr.below hlt
    obtain ⟨z, id, p, t, v0, v1, v2, v3, wid, wp⟩ := HV.out k hlt
    rw [v0] at e0
    rw [v1] at e1
    rw [v2] at e2
    rw [v3] at e3
    have sb : St w None (wr.alloc (.cells #[.int .i64 z, .int .i64 id, .int .u64 p, .int .i64 t] 35)) [BookR g s, ArrR h 22 20 (fun j => .int .u64 (O j)), BlkR wr.heap.size 35 #[.int .i64 z, .int .i64 id, .int .u64 p, .int .i64 t]] := St.box (L := [_, _]) sr _ _
    obtain ⟨db, hdb⟩ : ∃ db, wr.heap.size = db := ⟨_, rfl⟩
    rw [hdb] at sb
    have SB := Lib.hid sb
    obtain ⟨b0, b1, b2, b3⟩ := (sb.blk 2 rfl).four
    clear sr sb v0 v1 v2 v3 ok hone hun un0 b3
    have hp0 : 0 ≤ p % 60 := Int.emod_nonneg _ (by omega)
    have hp1 : p % 60 < 60 := Int.emod_lt_of_pos _ (by omega)
    obtain ⟨d, hd⟩ : ∃ d, now + 1 + p % 60 = d := ⟨_, rfl⟩
    have hd1 : now + 1 ≤ d ∧ d ≤ now + 60 := by omega
    obtain ⟨y, hy⟩ : ∃ y, Int.tmod id 20 = y := ⟨_, rfl⟩
    have yb : -20 < y ∧ y < 20 := by
      rw [← hy]
      exact ⟨Int.lt_tmod_of_pos _ (by omega), Int.tmod_lt_of_pos _ (by omega)⟩
    go_upto_if 59 with (fail)
    generalize wr.alloc (.cells #[.int .i64 z, .int .i64 id, .int .u64 p, .int .i64 t] 35) = wB at *
    clear e0 e1 e2 e3
    go_cut [13] (fun y' wx => ∃ x : Nat, x < 20 ∧ y' = .int .i64 (x : Int) ∧ wx = wB)
    case first =>
      by_cases hneg : y < 0
      · have q1 : decide (y < 0) = true := decide_eq_true hneg
        have hwr : IntKind.i64.wrap (-y) = -y := IntWalk.i64_in _ ⟨by omega, by omega⟩
        go_wp2_with fail
        go_meet
        exact ⟨(-y).toNat, by omega, by congr 1; omega, rfl⟩
      · have q1 : decide (y < 0) = false := decide_eq_false hneg
        go_wp2_with fail
        go_meet
        exact ⟨y.toNat, by omega, by congr 1; omega, rfl⟩
    case rest =>
    obtain ⟨x, hx, rfl, rfl⟩ := hcut
    clear hy yb
    go_upto_block 2 with (fail)
    go_cut [8, 10] (fun x8 x10 wx => ∃ (s' : Bk) (O' : Nat → Int) (now' : Int), x8 = .int .u64 now' ∧ x10 = .int .i64 (nzO O' : Int) ∧ s'.now ≤ now' ∧ now' ≤ s'.now + 1 ∧ 0 ≤ now' ∧ now' ≤ k + 1 ∧ OneW s' O' c ∧ St w None wx [BookR g s', ArrR h 22 20 (fun j => .int .u64 (O' j))])
    case first =>
      by_cases h0 : z = 0
      · subst h0
        as_aux_lemma =>
          have K1 := Lib.hid (bOpen_o (id := (x : Int)) (dead := d) SB.out 0 rfl (wf_small (by omega) (by omega)) (by omega) (by omega))
          have hmay := HONE.out.may HOK.out HUN.out hx (d := d) (by omega)
          have OPN := Lib.hid (fun h => HONE.out.opn HOK.out HUN.out hx (d := d) h (by rw [HNOW.out]; omega))
          have OID := Lib.hid (opn_id (s := s) (id := (x : Int)) (d := d))
          have CO := Lib.hid (fun h => (cnt_opn (s := s) (id := (x : Int)) (dead := d) h).2.2.1.trans HNOW.out)
          rw [HNOW.out] at hmay
          obtain ⟨s', hs'⟩ : ∃ s', s.opn (x : Int) d = s' := ⟨_, rfl⟩
          rw [hs'] at K1 OPN OID CO
          have HPUT := Lib.hid (fun h => nzO_put (O := O) (d := d) hx h (by omega))
          generalize opnA s (x : Int) d = q at *
          have hw0 : IntKind.u64.wrap (now + 1) = now + 1 := IntWalk.u64_in _ ⟨by omega, by omega⟩
          have hw1 : IntKind.u64.wrap d = d := IntWalk.u64_in _ ⟨by omega, by omega⟩
          have hw2 : IntKind.u64.wrap (now + c) = now + c := IntWalk.u64_in _ ⟨by omega, by omega⟩
          have i0 : (0 : Int) ≤ (x : Int) := by omega
          have i1 : (x : Int) < 20 := by omega
          have HM := Lib.hid hmay
          clear hs' hmay
          go_wp2_with fail
          refine K1.out.mono ?_
          rintro e w4 ⟨rfl, s4⟩
          have xa := s4.arr_cell 1 rfl hx
          have fz := s4.arr_frozen 1 rfl x
          have st6 : St w None (w4.setCell ⟨h, x, none⟩ (.int .u64 d)) [BookR g s', ArrR h 22 20 (fun j => .int .u64 (upO O x d j)), BlkR db 35 #[.int .i64 0, .int .i64 id, .int .u64 p, .int .i64 t]] := by rw [← row_up]; exact s4.arr_set 1 rfl hx (.int .u64 d)
          have S6 := Lib.hid (st6.take 2)
          have S4 := Lib.hid (s4.take 2)
          obtain ⟨y, hy⟩ : ∃ y, O x = y := ⟨_, rfl⟩
          rw [hy] at xa HM HPUT
          clear s4 st6 K1 hy
          by_cases h0 : y = 0
          · by_cases h1 : now + c < d
            · have hq := HM.out.2 ⟨h0, h1⟩
              subst hq
              have NZ := Lib.hid (HPUT.out h0)
              have OP1 := Lib.hid (OPN.out rfl)
              have CO1 := Lib.hid (CO.out rfl)
              clear OPN CO
              have t1 : (y == 0) = true := beq_iff_eq.2 h0
              have t2 : decide (now + c < d) = true := decide_eq_true h1
              clear h0 h1
              go_wp2_with fail
              go_meet
              exact ⟨s', upO O x d, now, rfl, by rw [NZ.out, show wrap64 ((nzO O : Int) + 1) = (nzO O : Int) + 1 from IntWalk.wrap64_in _ ⟨by have := HNZ.out; omega, by have := HNZ.out; omega⟩]; rfl, by rw [CO1.out]; exact Int.le_refl _, by rw [CO1.out]; omega, by omega, by omega, OP1.out, S6.out⟩
            · have hq : q ≠ 0 := fun h => h1 (HM.out.1 h).2
              have OI := Lib.hid (OID.out hq)
              have t0 : (q == 0) = false := beq_eq_false_iff_ne.2 hq
              have t1 : (y == 0) = true := beq_iff_eq.2 h0
              have t2 : decide (now + c < d) = false := decide_eq_false h1
              clear h0 h1 hq
              go_wp2_with fail
              go_meet
              exact ⟨s', O, now, rfl, rfl, by rw [OI.out, HNOW.out]; exact Int.le_refl _, by rw [OI.out, HNOW.out]; omega, by omega, by omega, by rw [OI.out]; exact HONE.out, S4.out⟩
          · have hq : q ≠ 0 := fun h => h0 (HM.out.1 h).1
            have OI := Lib.hid (OID.out hq)
            have t0 : (q == 0) = false := beq_eq_false_iff_ne.2 hq
            have t1 : (y == 0) = false := beq_eq_false_iff_ne.2 h0
            clear h0 hq
            go_wp2_with fail
            go_meet
            exact ⟨s', O, now, rfl, rfl, by rw [OI.out, HNOW.out]; exact Int.le_refl _, by rw [OI.out, HNOW.out]; omega, by omega, by omega, by rw [OI.out]; exact HONE.out, S4.out⟩
      have z0 : (z == 0) = false := beq_eq_false_iff_ne.2 h0
      by_cases h1 : z = 1
      · subst h1
        have K1 := Lib.hid (bAnswer_o (id := (x : Int)) SB.out 0 rfl (wf_small (by omega) (by omega)) (by rw [HUN.out]; exact Nat.zero_le _) 5 false)
        as_aux_lemma =>
          have ANS := Lib.hid (HONE.out.ans HOK.out HUN.out hx false)
          have NA := Lib.hid ((ansN (s := s) (x := (x : Int)) false).trans HNOW.out)
          clear SB
          go_wp2_with fail
          refine K1.out.mono ?_
          rintro e w4 ⟨rfl, s4⟩
          have S4 := Lib.hid (s4.take 2)
          clear s4 K1
          go_wp2_with fail
          go_meet
          exact ⟨_, O, now, rfl, rfl, by rw [NA.out]; exact Int.le_refl _, by rw [NA.out]; omega, by omega, by omega, ANS.out, S4.out⟩
      have z1 : (z == 1) = false := beq_eq_false_iff_ne.2 h1
      by_cases h2 : z = 2
      · subst h2
        have K1 := Lib.hid (bAnswer_o (id := (x : Int)) SB.out 0 rfl (wf_small (by omega) (by omega)) (by rw [HUN.out]; exact Nat.zero_le _) 5 true)
        as_aux_lemma =>
          have ANS := Lib.hid (HONE.out.ans HOK.out HUN.out hx true)
          have NA := Lib.hid ((ansN (s := s) (x := (x : Int)) true).trans HNOW.out)
          clear SB
          go_wp2_with fail
          refine K1.out.mono ?_
          rintro e w4 ⟨rfl, s4⟩
          have S4 := Lib.hid (s4.take 2)
          clear s4 K1
          go_wp2_with fail
          go_meet
          exact ⟨_, O, now, rfl, rfl, by rw [NA.out]; exact Int.le_refl _, by rw [NA.out]; omega, by omega, by omega, ANS.out, S4.out⟩
      have z2 : (z == 2) = false := beq_eq_false_iff_ne.2 h2
      by_cases h3 : z = 3
      · subst h3
        have K1 := Lib.hid (bCancel_o (id := (x : Int)) SB.out 0 rfl (wf_small (by omega) (by omega)) (by rw [HUN.out]; exact Nat.zero_le _))
        as_aux_lemma =>
          have ANS := Lib.hid (HONE.out.out HOK.out HUN.out (f := ⟨(x : Int), 2, 3⟩) rfl hx (by simp))
          have NA := Lib.hid ((outN (s := s) (f := ⟨(x : Int), 2, 3⟩)).trans HNOW.out)
          clear SB
          go_wp2_with fail
          refine K1.out.mono ?_
          rintro e w4 ⟨rfl, s4⟩
          have S4 := Lib.hid (s4.take 2)
          clear s4 K1
          go_wp2_with fail
          go_meet
          exact ⟨_, O, now, rfl, rfl, by rw [NA.out]; exact Int.le_refl _, by rw [NA.out]; omega, by omega, by omega, ANS.out, S4.out⟩
      have z3 : (z == 3) = false := beq_eq_false_iff_ne.2 h3
      have hw1 : IntKind.u64.wrap (now + 1) = now + 1 := IntWalk.u64_in _ ⟨by omega, by omega⟩
      have SR := Lib.hid (SB.out.take 2)
      clear SB
      go_wp2_with fail
      go_meet
      exact ⟨s, O, now + 1, rfl, rfl, by rw [HNOW.out]; omega, by rw [HNOW.out]; omega, by omega, by omega, HONE.out, SR.out⟩
    case rest =>
    obtain ⟨s', O', now', rfl, rfl, m0, m1, m2, m3, hone', sr⟩ := hcut
    clear SB HUN HNOW HONE HOK HNZ b0 b1 b2 hd hd1 hp0 hp1 hx hnow
    obtain ⟨Sx, ok', hxx⟩ := sr.get 0 rfl
    have hg := goA_le m0 (by omega)
    have GG := Lib.hid (bGo_o (u := now') sr 0 rfl m2 (by have := hone'.one; omega))
    rw [hg] at GG
    have TO := Lib.hid (fun o (ho : OutP s' now' o) => hone'.go ok' m0 m1 hg ho)
    obtain ⟨s3, hs3⟩ : ∃ s3, s'.gon now' = s3 := ⟨_, rfl⟩
    rw [hs3] at GG TO
    clear hxx sr ok' hg hone' hs3 m0 m1
    go_wp2_with fail
    refine GG.out.mono ?_
    rintro e w5 ⟨B, no, dd, o, rfl, ho, hno, hno9, s5⟩
    obtain ⟨td, on3, un3, nw3⟩ := TO.out o ho
    have S5 := Lib.hid s5
    have TD := Lib.hid td
    have ON3 := Lib.hid on3
    have UN3 := Lib.hid un3
    have NW3 := Lib.hid nw3
    have HNO := Lib.hid hno
    clear GG TO ho s5 td on3 un3 nw3 hno
    go_wp2_with fail
    go_loopw [10, 18, 19] (fun x10 x18 x19 wx => ∃ j : Nat, j ≤ no ∧ x18 = .int .i64 (j : Int) ∧ x10 = .int .i64 (nzO (zO O' (o.take j)) : Int) ∧ St w None wx [BookR g s3, ArrR h 22 20 (fun i => .int .u64 (zO O' (o.take j) i)), LisR 50 3 (.slice B no dd) no (fvs o)]) (fun _ i _ _ => no - (intOf i).toNat)
    case atStart => exact ⟨0, by omega, rfl, by rw [List.take_zero, zO_nil], by rw [List.take_zero, zO_nil]; exact S5.out⟩
    case round =>
    clear S5
    obtain ⟨j, hj, rfl, rfl, sr⟩ := hrel
    by_cases hjn : j < no
    · have y1 : decide ((j : Int) < (no : Int)) = true := decide_eq_true (by omega)
      have y1' : decide (j < no) = true := decide_eq_true hjn
      obtain ⟨f, hf⟩ : ∃ f, o[j]? = some f := ⟨_, List.getElem?_eq_getElem (by rw [HNO.out]; exact hjn)⟩
      obtain ⟨x, hid, hx, hne, hcx, hcu, hux, hlate⟩ := TD.out.at_ j f hf
      obtain ⟨hz0, hz1⟩ := zO_at (O := O') TD.out.nd hf hid
      obtain ⟨c0, c1, c2⟩ := fvs_at o j f hf
      obtain ⟨gb, off, rfl, hcl⟩ := (sr.lis 2 rfl).reads.2.resolve_left (by omega)
      have x0 := hcl _ _ c0
      have x1 := hcl _ _ c1
      have x2 := hcl _ _ c2
      rw [← Nat.add_assoc] at x1 x2
      rw [hid] at x0
      have xa := sr.arr_cell 1 rfl hx
      rw [hz0] at xa
      have fz := sr.arr_frozen 1 rfl x
      have HZ1 := Lib.hid hz1
      have st6 := sr.arr_set 1 rfl hx (.int .u64 0)
      have st6 : St w None (wr.setCell ⟨h, x, none⟩ (.int .u64 0)) [BookR g s3, ArrR h 22 20 (fun i => .int .u64 (zO O' (o.take (j + 1)) i)), LisR 50 3 (.slice (some ⟨gb, off, none⟩) no dd) no (fvs o)] := by rw [hz1, ← row_up]; exact st6
      have S6 := Lib.hid st6
      have hnz := nzO_del (O := zO O' (o.take j)) hx (by rw [hz0]; exact hne)
      rw [← hz1] at hnz
      obtain ⟨N, hN⟩ : ∃ N, nzO (zO O' (o.take (j + 1))) = N := ⟨_, rfl⟩
      rw [hN] at hnz
      rw [← hnz]
      have hN20 : N ≤ 20 := by rw [← hN]; exact cf_le _ _
      have HN := Lib.hid hN
      obtain ⟨y, hy⟩ : ∃ y, O' x = y := ⟨_, rfl⟩
      rw [hy] at xa hne hcx hcu hux hlate
      obtain ⟨fi, K, Y⟩ := f
      dsimp only at x1 x2 hlate
      have t1 : (y == 0) = false := beq_eq_false_iff_ne.2 hne
      have t2 : IntKind.u64.wrap (y - c) = y - c := IntWalk.u64_in _ ⟨by omega, by omega⟩
      have t3 : decide (y - c < now') = false := decide_eq_false (by omega)
      have t4 : decide ((x : Int) < 0) = false := decide_eq_false (by omega)
      have t5 : decide (20 ≤ (x : Int)) = false := decide_eq_false (by omega)
      have t5' : decide (20 ≤ x) = false := decide_eq_false (by omega)
      clear hz0 hz1 hf hid hcl c0 c1 c2 st6 hnz hN hy
      by_cases hK : K = 2
      · by_cases hY : Y = 1
        · have t6 : (K == 2) = true := beq_iff_eq.2 hK
          have t7 : (Y == 1) = true := beq_iff_eq.2 hY
          have t8 : (now' != y - c) = false := by rw [hlate hK hY]; simp
          clear hlate hK hY
          as_aux_lemma =>
            have i0 : (0 : Int) ≤ (x : Int) := by omega
            have i1 : (x : Int) < 20 := by omega
            have j0 : (0 : Int) ≤ (j : Int) := by omega
            have j1 : (j : Int) < (no : Int) := by omega
            go_wp2_with fail
            go_roundw
            case rel => exact ⟨j + 1, by omega, by go_num, by rw [HN.out], S6.out⟩
            case measure => simp [intOf]; omega
        · have t6 : (K == 2) = true := beq_iff_eq.2 hK
          have t7 : (Y == 1) = false := beq_eq_false_iff_ne.2 hY
          clear hlate hK hY
          as_aux_lemma =>
            have i0 : (0 : Int) ≤ (x : Int) := by omega
            have i1 : (x : Int) < 20 := by omega
            have j0 : (0 : Int) ≤ (j : Int) := by omega
            have j1 : (j : Int) < (no : Int) := by omega
            go_wp2_with fail
            go_roundw
            case rel => exact ⟨j + 1, by omega, by go_num, by rw [HN.out], S6.out⟩
            case measure => simp [intOf]; omega
      · have t6 : (K == 2) = false := beq_eq_false_iff_ne.2 hK
        clear hlate hK
        as_aux_lemma =>
          have i0 : (0 : Int) ≤ (x : Int) := by omega
          have i1 : (x : Int) < 20 := by omega
          have j0 : (0 : Int) ≤ (j : Int) := by omega
          have j1 : (j : Int) < (no : Int) := by omega
          go_wp2_with fail
          go_roundw
          case rel => exact ⟨j + 1, by omega, by go_num, by rw [HN.out], S6.out⟩
          case measure => simp [intOf]; omega
    · obtain rfl : j = no := by omega
      have y1 : decide ((j : Int) < (j : Int)) = false := decide_eq_false (by omega)
      have y1' : decide (j < j) = false := decide_eq_false hjn
      rw [List.take_of_length_le (by rw [HNO.out]; exact Nat.le_refl _)] at sr ⊢
      have SR := Lib.hid (sr.take 2)
      have PS := Lib.hid ON3.out.pos
      rw [NW3.out] at PS
      clear sr hjn
      generalize zO O' o = O3 at *
      go_wp2_with fail
      have s7 := SR.out
      go_loopw [20] (fun x20 wx => ∃ i : Nat, i ≤ 20 ∧ x20 = .int .i64 (i : Int) ∧ St w None wx [BookR g s3, ArrR h 22 20 (fun i => .int .u64 (O3 i))]) (fun i _ => 20 - (intOf i).toNat)
      case atStart => exact ⟨0, by omega, rfl, s7⟩
      case round =>
      clear s7 SR
      obtain ⟨i, hi, rfl, sr⟩ := hrel
      by_cases hi2 : i < 20
      · have y2 : decide ((i : Int) < 20) = true := decide_eq_true (by omega)
        have y2' : decide (i < 20) = true := decide_eq_true hi2
        have xa := sr.arr_cell 1 rfl hi2
        have hp := PS.out i hi2
        obtain ⟨y, hy⟩ : ∃ y, O3 i = y := ⟨_, rfl⟩
        rw [hy] at xa hp
        have S8 := Lib.hid sr
        clear sr hy
        by_cases h0 : y = 0
        · have t1 : (y != 0) = false := by simp [h0]
          clear h0 hp
          as_aux_lemma =>
            have i0 : (0 : Int) ≤ (i : Int) := by omega
            have i1 : (i : Int) < 20 := by omega
            go_wp2_with fail
            go_roundw
            case rel => exact ⟨i + 1, by omega, by go_num, S8.out⟩
            case measure => simp [intOf]; omega
        · have t1 : (y != 0) = true := by simp [h0]
          have t2 : IntKind.u64.wrap (y - c) = y - c := IntWalk.u64_in _ ⟨by omega, by omega⟩
          have t3 : decide (y - c ≤ now') = false := decide_eq_false (by omega)
          clear h0 hp
          as_aux_lemma =>
            have i0 : (0 : Int) ≤ (i : Int) := by omega
            have i1 : (i : Int) < 20 := by omega
            go_wp2_with fail
            go_roundw
            case rel => exact ⟨i + 1, by omega, by go_num, S8.out⟩
            case measure => simp [intOf]; omega
      · obtain rfl : i = 20 := by omega
        have S8 := Lib.hid sr
        clear sr
        go_wp2_with fail
        go_roundw
        case rel => exact ⟨k + 1, s3, O3, now', by omega, by omega, rfl, rfl, by go_num, m2, by omega, NW3.out, UN3.out, ON3.out, S8.out⟩
        case measure => simp [intOf]; omega
  · have hun' := HUN.out
    have hg := goA_le (a := s.now) (u := now + 1000) (by omega) (by omega)
    have GG := Lib.hid (bGo_o (u := now + 1000) sr 0 rfl (by omega) (by omega))
    rw [hg] at GG
    have EN := Lib.hid (fun o (ho : OutP s (now + 1000) o) => hone.end_ ok hun' (by omega) hg ho)
    clear sr hone ok hun un0 hun' hg
    by_cases hkn : k < n
    · have z1 : decide ((k : Int) < (n : Int)) = true := decide_eq_true (by omega)
      have z1' : decide (k < n) = true := decide_eq_true hkn
      have z2 : decide ((k : Int) < 150) = false := decide_eq_false (by omega)
      have z2' : decide (k < 150) = false := decide_eq_false (by omega)
      as_aux_lemma =>
        have hw1 : IntKind.u64.wrap (now + 1000) = now + 1000 := IntWalk.u64_in _ ⟨by omega, by omega⟩
        go_wp2_with fail
        refine GG.out.mono ?_
        rintro e w9 ⟨B9, n9, d9, o9, rfl, ho9, hno9, hno99, s9⟩
        obtain ⟨h1, h2⟩ := EN.out o9 ho9
        have CN := Lib.hid (bCount_o s9 0 rfl)
        rw [h2] at CN
        obtain rfl : n9 = nzO O := by omega
        have zz : ((nzO O : Int) == (nzO O : Int)) = true := by simp
        have zz' : (nzO O == nzO O) = true := by simp
        clear GG EN ho9 s9 h1 h2 hno9
        go_wp2_with (first
          | (go_at_call 21; refine CN.out.mono ?_; rintro e wz ⟨rfl, sz⟩; have SZ := Lib.hid sz; clear sz)
          | fail)
        go_ret
        exact ⟨rfl, SZ.out.below⟩
    · have z1 : decide ((k : Int) < (n : Int)) = false := decide_eq_false (by omega)
      have z1' : decide (k < n) = false := decide_eq_false hkn
      as_aux_lemma =>
        have hw1 : IntKind.u64.wrap (now + 1000) = now + 1000 := IntWalk.u64_in _ ⟨by omega, by omega⟩
        go_wp2_with fail
        refine GG.out.mono ?_
        rintro e w9 ⟨B9, n9, d9, o9, rfl, ho9, hno9, hno99, s9⟩
        obtain ⟨h1, h2⟩ := EN.out o9 ho9
        have CN := Lib.hid (bCount_o s9 0 rfl)
        rw [h2] at CN
        obtain rfl : n9 = nzO O := by omega
        have zz : ((nzO O : Int) == (nzO O : Int)) = true := by simp
        have zz' : (nzO O == nzO O) = true := by simp
        clear GG EN ho9 s9 h1 h2 hno9
        go_wp2_with (first
          | (go_at_call 21; refine CN.out.mono ?_; rintro e wz ⟨rfl, sz⟩; have SZ := Lib.hid sz; clear sz)
          | fail)
        go_ret
        exact ⟨rfl, SZ.out.below⟩

set_option maxRecDepth 100000 in
theorem lifted (os : Os) (started : os.Started) (H : Type) (enc : TypeId × Value → H) :
    ReturnsInHanded {} Try.checked os 4 .any (Rows.lifeOnceSpec.pre6 enc Try.prog Try.f4 Rows.lifeOnceRow.domain false) (Rows.lifeOnceSpec.post enc Try.prog Try.f4 false true false false) := by
  refine law_lifted (C := Try.checked) (tb := 4) own started (by kernel_rfl) Try.func4
    (ChangeSpec.witness6 (enc := enc) (C := Try.checked) false ⟨#[], #[.int .u8 0, .slice none 0 0], []⟩ 8 (by kernel_rfl) (by kernel_rfl) (by kernel_rfl) (by kernel_rfl)) laid (by kernel_rfl) (by kernel_rfl) Try.underlying4 rfl ?_
  intro W base args ds ps hval0 hA0 hlt
  have hval : ∀ (j : Nat) t v, Try.f4.params[j]? = some t → args[j]? = some v → Value.okWide Try.prog W .any base t v := hval0
  have hA : DataW.TrodAll enc Try.prog W 0 (fun _ => true) true Try.f4.params.toList args.toList ds ps := hA0
  clear hA0 hval0
  rw [Try.params4] at hA hval
  obtain ⟨v0, vs0, d0, ds0, p0, q0, hargs, rfl, rfl, h0, r0⟩ := trodAll_cons hA
  obtain ⟨v1, vs1, d1, ds1, p1, q1, rfl, rfl, rfl, h1, r1⟩ := trodAll_cons r0
  obtain ⟨rfl, rfl, rfl⟩ := trodAll_nil r1
  obtain rfl : args = #[v0, v1] := by cases args; simp_all
  obtain ⟨a0, rfl, rfl, rfl, w0⟩ := open_int Try.underlying5 (hval 0 5 v0 rfl rfl) h0
  obtain ⟨A1, n1, cap1, V1, rfl, le1, mx1, rd1, lf1⟩ := open_slice_spots (m := 4) (d := 20) (l := [(0, 3), (1, 3), (2, 22), (3, 3)]) Try.underlying23 (by kernel_rfl) (by decide) (by kernel_rfl) (hval 1 23 v1 rfl rfl) h1
  have f1_0 := fun j hj => leaf_int Try.underlying3 (lf1 0 3 (by simp) j hj)
  have f1_1 := fun j hj => leaf_int Try.underlying3 (lf1 1 3 (by simp) j hj)
  have f1_2 := fun j hj => leaf_int Try.underlying22 (lf1 2 22 (by simp) j hj)
  have f1_3 := fun j hj => leaf_int Try.underlying3 (lf1 3 3 (by simp) j hj)
  refine ⟨⟨rfl, rfl, rfl⟩, ?_⟩
  exact walk a0 A1 n1 cap1 V1 W (bounds_u8 w0) (by omega) rd1 (fun j hj => by
    obtain ⟨x0, h0, -⟩ := f1_0 j hj
    obtain ⟨x1, h1, b1⟩ := f1_1 j hj
    obtain ⟨x2, h2, b2⟩ := f1_2 j hj
    obtain ⟨x3, h3, -⟩ := f1_3 j hj
    exact ⟨x0, x1, x2, x3, h0, h1, h2, h3, b1, (bounds_u64 b2).1⟩)

theorem over : Rows.lifeOnceRow.holds Try.pinned (OpenSpec.ofChange Rows.lifeOnceSpec) :=
  OpenClaim.holds_of_wide 4 Try.f4 rfl rfl rfl rfl rfl rfl rfl ⟨rfl, rfl, rfl, rfl, rfl⟩ rfl rfl rfl rfl rfl (by kernel_rfl) Try.func4 (by kernel_rfl)
    (of_decide_eq_true (by kernel_rfl)) (by unfold Func.isWrapper; first | (rw [if_pos (by decide +kernel)]; kernel_rfl) | (rw [if_neg (by decide +kernel)]; exact ⟨rfl, rfl⟩))
    (fun os started H enc _ => lifted os started H enc)
theorem proved : Rows.LifeOnceSaid := over
#print axioms proved
end Go.Proofs.Ythdhfjcgboglfaa.lifeOnce
