/-
  For every cost and script LifePlays answers true, and changes nothing: whatever is opened, answered, and called off, whenever: each answer, all outcomes, and who is open, is what the document says. No condition.
-/
import Derived.Test.YthdhfjcgboglfaaRows
import Derived.Test.YthdhfjcgboglfaaFr
import Derived.Test.YthdhfjcgboglfaaLifeZq
import Derived.Deep.DeepCutAuto
import Derived.Deep.CutBlock
import Derived.Deep.RegionHeld3
import Derived.Test.YthdhfjcgboglfaaOpen
import Derived.Test.YthdhfjcgboglfaaRd
namespace Go.Proofs.Ythdhfjcgboglfaa.lifePlays
open Go.ChangeShapes Go.WideShapes Go.ChangeAt Go.RowKit
set_option linter.unusedVariables false
theorem own : ownKnob Try.prog.godebug = none := by kernel_rfl
theorem laid : laidOutB Try.prog = true := by kernel_rfl
set_option maxRecDepth 100000
set_option maxHeartbeats 4000000
theorem bCount_q {w0 w : World} {S0 : Nat → Prop} {L : List Res} {b : Nat} {s : Bk} (H : St w0 S0 w L) (i : Nat) (hi : L[i]? = some (BookR b s)) : Calls Try.prog 21 #[.pointer (some ⟨b, 0, none⟩)] w fun e w' => e = .returned (.int .i64 (cntO s.op)) ∧ w = w' := by
  obtain ⟨S, ok, cw, mb, A, cap, hs⟩ := H.get i hi
  have H0 : St w S w (BookL b cw mb A cap s ++ []) := by rw [List.append_nil]; exact St.start hs
  exact (lCount_c H0).mono fun e w' ⟨he, hw⟩ => ⟨he, hw.symm⟩
theorem rbk_now {w0 w : World} {S0 : Nat → Prop} {L : List Res} {r : Nat} {s : Bk} {now : Int} (H : St w0 S0 w L) (i : Nat) (hi : L[i]? = some (RBK r s)) (ok : s.ok) (h : s.now = now) : w.cell? ⟨r, 1, none⟩ = some (.int .u64 now) := by
  obtain ⟨_, _, _, -, -, hn, -, -⟩ := rbk_look H i hi ok
  rw [← h]; exact hn
theorem un_opn {s : Bk} {id d : Int} : (s.opn id d).un = s.un ∧ (s.opn id d).now = s.now := by unfold Bk.opn; split <;> exact ⟨rfl, rfl⟩
theorem un_out {s : Bk} {f : Ft} : (s.out f).un.length ≤ s.un.length + 1 ∧ (s.out f).now = s.now := by
  unfold Bk.out
  split
  · exact ⟨by simp, rfl⟩
  · exact ⟨by omega, rfl⟩
theorem un_ans {s : Bk} {id st : Int} {bad : Bool} : (s.ans id st bad).un.length ≤ s.un.length + 1 ∧ (s.ans id st bad).now = s.now := by
  unfold Bk.ans
  split
  · exact ⟨by omega, rfl⟩
  · exact un_out
theorem un_gon {s : Bk} {u : Int} (h : s.now < 4611686018427387904) : (s.gon u).un.length ≤ s.un.length ∧ (s.gon u).now < 4611686018427387904 := by
  unfold Bk.gon
  split
  · rename_i hg
    refine ⟨Nat.zero_le _, ?_⟩
    unfold goA at hg
    split at hg
    · assumption
    · cases hg
  · exact ⟨Nat.le_refl _, h⟩
/-- What is found among the first. -/
def FndL (l : List (Int × Int)) (id : Int) (j : Nat) (W : Int) (B : Bool) : Prop := (B = false ∧ W = 0 ∧ ∀ i x, i < j → l[i]? = some x → x.1 ≠ id) ∨ (B = true ∧ ∃ i, i < j ∧ l[i]? = some (id, W))
theorem FndL.no {l : List (Int × Int)} {id : Int} {j : Nat} {W : Int} {B : Bool} {x : Int × Int} (h : FndL l id j W B) (hx : l[j]? = some x) (hne : x.1 ≠ id) : FndL l id (j + 1) W B := by
  rcases h with ⟨a, b, c⟩ | ⟨a, i, hi, hl⟩
  · refine Or.inl ⟨a, b, fun i y hi hy => ?_⟩
    by_cases e : i = j
    · subst e; rw [hx] at hy; injection hy with hy; subst hy; exact hne
    · exact c i y (by omega) hy
  · exact Or.inr ⟨a, i, by omega, hl⟩
theorem FndL.yes {l : List (Int × Int)} {id : Int} {j : Nat} {W : Int} {B : Bool} {d : Int} (h : FndL l id j W B) (hx : l[j]? = some (id, d)) : FndL l id (j + 1) d true := Or.inr ⟨rfl, j, by omega, hx⟩
theorem FndL.fin {s : Bk} {l : List (Int × Int)} {id : Int} {W : Int} {B : Bool} (ok : s.ok) (hl : RL l (TO s.op)) (h : FndL l id l.length W B) : deadO s.op id = W ∧ (slotO s.op id).isSome = B := by
  rcases h with ⟨rfl, rfl, hno⟩ | ⟨rfl, i, _, hx⟩
  · have hT : TO s.op id = none := hl.nt.1 fun x hx => by
      obtain ⟨i, hi⟩ := List.mem_iff_getElem?.1 hx
      exact hno i x (List.getElem?_eq_some_iff.1 hi).1 hi
    have hs := (TO_none ok.U).1 hT
    unfold deadO
    rw [hs]; exact ⟨rfl, rfl⟩
  · obtain ⟨k, hk⟩ := hl.open_ ok (List.mem_of_getElem? hx)
    have hs := ok.U.slot hk
    unfold deadO
    rw [hs]
    dsimp only
    rw [hk]; exact ⟨rfl, rfl⟩
theorem walk (c : Int) (A : Option Addr) (n cap : Nat) (V : Nat → Nat → Value) (w : World) (bc : 0 ≤ c ∧ c ≤ 18446744073709551615) (hm : n ≤ maxLen) (rd : RdM w A n 4 V) (hV : ∀ j, j < n → ∃ z i p t : Int, V j 0 = .int .i64 z ∧ V j 1 = .int .i64 i ∧ V j 2 = .int .u64 p ∧ V j 3 = .int .i64 t ∧ wfI i ∧ 0 ≤ p ∧ p ≤ 18446744073709551615) :
    Calls Try.prog 3 #[.int .u64 c, .slice A n cap] w fun r w' => r = .returned (.bool true) ∧ Below w.heap.size w w' := by
  unfold maxLen at hm
  have RD := Lib.hid rd
  have HV := Lib.hid hV
  clear rd hV
  have AW := Lib.hid (awake_c w)
  by_cases hlo : c < 1
  · have d0 : decide (c < 1) = true := decide_eq_true hlo
    have N1 := Lib.hid (fun w1 => lNew_no w1 (c := c) (by unfold newA; rw [if_pos (by omega)]; decide))
    go_enter Try.func3, Try.ntmps3
    go_wp2_with fail
    refine AW.out.mono ?_
    rintro e w1 ⟨rfl, s1⟩
    have S1 := Lib.hid s1
    clear AW s1
    go_wp2_with fail
    refine (N1.out w1).mono ?_
    rintro e w2 ⟨rfl, rfl⟩
    go_wp2_with fail
    go_ret
    exact ⟨rfl, S1.out.below⟩
  have d0 : decide (c < 1) = false := decide_eq_false hlo
  by_cases hhi : 1000 < c
  · have d1 : decide (1000 < c) = true := decide_eq_true hhi
    have N1 := Lib.hid (fun w1 => lNew_no w1 (c := c) (by unfold newA; rw [if_pos (by omega)]; decide))
    go_enter Try.func3, Try.ntmps3
    go_wp2_with fail
    refine AW.out.mono ?_
    rintro e w1 ⟨rfl, s1⟩
    have S1 := Lib.hid s1
    clear AW s1
    go_wp2_with fail
    refine (N1.out w1).mono ?_
    rintro e w2 ⟨rfl, rfl⟩
    go_wp2_with fail
    go_ret
    exact ⟨rfl, S1.out.below⟩
  have d1 : decide (1000 < c) = false := decide_eq_false hhi
  go_enter Try.func3, Try.ntmps3
  go_wp2_with fail
  refine AW.out.mono ?_
  rintro e w1 ⟨rfl, s1⟩
  have N1 := Lib.hid (bNew_o (c := c) s1 (by unfold newA; rw [if_neg (by omega)]))
  clear AW s1
  go_wp2_with fail
  refine N1.out.mono ?_
  rintro e w2 ⟨g, rfl, s2⟩
  have s3 := rbk_new s2 c
  obtain ⟨r, hr⟩ : ∃ r, w2.heap.size = r := ⟨_, rfl⟩
  rw [hr] at s3
  have S3 := Lib.hid (show St w None _ [BookR g (Bk.new c), RBK r (Bk.new c)] from s3)
  clear s2 s3 N1
  go_wp2_with fail
  go_loopw [8] (fun i wr => ∃ (k : Nat) (s : Bk), k ≤ n ∧ k ≤ 150 ∧ i = .int .i64 k ∧ s.now < 4611686018427387904 ∧ s.un.length ≤ k ∧ St w None wr [BookR g s, RBK r s]) (fun i _ => n - (intOf i).toNat)
  case atStart => exact ⟨0, _, by omega, by omega, rfl, by show (0 : Int) < 4611686018427387904; omega, Nat.zero_le _, S3.out⟩
  case round =>
    clear S3 hr
    obtain ⟨k, s, hk, hk2, rfl, hnow, hun, sr⟩ := hrel
    have SR := Lib.hid sr
    by_cases hkn : k < n
    case neg =>
      clear sr
      go_wp2_with fail
      go_ret
      exact ⟨rfl, SR.out.below⟩
    have t0 : decide ((k : Int) < (n : Int)) = true := decide_eq_true (by omega)
    have t0' : decide (k < n) = true := decide_eq_true hkn
    by_cases hkn2 : k < 150
    case neg =>
      have t1 : decide ((k : Int) < 150) = false := decide_eq_false (by omega)
      have t1' : decide (k < 150) = false := decide_eq_false hkn2
      clear sr hkn2 hkn hk2 hk
      go_wp2_with fail
      go_ret
      exact ⟨rfl, SR.out.below⟩
    have t1 : decide ((k : Int) < 150) = true := decide_eq_true (by omega)
    have t1' : decide (k < 150) = true := decide_eq_true hkn2
    obtain ⟨ib, off, rfl, e0, e1, e2, e3⟩ := RD.out.at4 sr.below hkn
    obtain ⟨z, id, p, t, v0, v1, v2, v3, wid, wp, wp1⟩ := HV.out k hkn
    rw [v0] at e0
    rw [v1] at e1
    rw [v2] at e2
    rw [v3] at e3
    obtain ⟨_, ok0, -⟩ := sr.get 0 rfl
    have OK := Lib.hid ok0
    have WID := Lib.hid wid
    have sb : St w None (wr.alloc (.cells #[.int .i64 z, .int .i64 id, .int .u64 p, .int .i64 t] 35)) [BookR g s, RBK r s, BlkR wr.heap.size 35 #[.int .i64 z, .int .i64 id, .int .u64 p, .int .i64 t]] := St.box (L := [_, _]) sr _ _
    obtain ⟨db, hdb⟩ : ∃ db, wr.heap.size = db := ⟨_, rfl⟩
    rw [hdb] at sb
    have SB := Lib.hid sb
    obtain ⟨b0, b1, b2, b3⟩ := (sb.blk 2 rfl).four
    obtain ⟨_, _, _, -, -, rn, -, -⟩ := rbk_look sb 1 rfl ok0
    have HNOW := Lib.hid hnow
    have HUN := Lib.hid hun
    have hun9 : s.un.length ≤ 90000 := by omega
    obtain ⟨now, hnw⟩ : ∃ now, s.now = now := ⟨_, rfl⟩
    rw [hnw] at rn hnow
    have n0 := ok0.n0
    rw [hnw] at n0
    have NW := Lib.hid hnw
    clear sr sb v0 v1 v2 v3 SR ok0 wid hun hnw
    go_upto_block 2 with (fail)
    generalize wr.alloc (.cells #[.int .i64 z, .int .i64 id, .int .u64 p, .int .i64 t] 35) = wB at *
    clear e0 e1 e2 e3
    go_cut [10, 11] (fun x10 x11 wx => ∃ (s' : Bk) (q : Int), x10 = .int .i64 q ∧ x11 = .int .i64 q ∧ s'.now < 4611686018427387904 ∧ s'.un.length ≤ k + 1 ∧ St w None wx [BookR g s', RBK r s', BlkR db 35 #[.int .i64 z, .int .i64 id, .int .u64 p, .int .i64 t]])
    case first =>
      obtain ⟨x, hx⟩ : ∃ x, IntKind.u64.wrap (now + p) = x := ⟨_, rfl⟩
      have bx : 0 ≤ x ∧ x ≤ 18446744073709551615 := by rw [← hx, IntKind.wrap_u64]; omega
      by_cases h0 : z = 0
      · subst h0
        have qq := And.intro b1 (And.intro b2 rn)
        have HX := Lib.hid hx
        have HF := Lib.hid (un_opn (s := s) (id := id) (d := x))
        have OK2 := Lib.hid (OK.out.opn id x)
        clear hx b0 b3
        go_wp2_with fail
        go_region_held3 (fun w' => w'.cell? ⟨db, 1, none⟩ = some (.int .i64 id) ∧ w'.cell? ⟨db, 2, none⟩ = some (.int .u64 p) ∧ w'.cell? ⟨r, 1, none⟩ = some (.int .u64 now)) (go_keep)
          (first
            | (go_at_call 11; rw [HX.out]; refine (bOpen_o SB.out.drew 0 rfl WID.out bx.1 bx.2).mono ?_; rintro r' w6 ⟨rfl, s6⟩; have S6 := Lib.hid s6; have q6 := And.intro (s6.blk 2 rfl).four.2.1 (And.intro (s6.blk 2 rfl).four.2.2.1 (rbk_now s6 1 rfl OK.out NW.out)); clear s6))
        clear b1 b2 rn qq SB
        obtain ⟨b1, b2, rn⟩ := q6
        have q6 := And.intro b1 (And.intro b2 rn)
        go_wp2_with fail
        go_region_held3 (fun w' => w'.cell? ⟨db, 1, none⟩ = some (.int .i64 id) ∧ w'.cell? ⟨db, 2, none⟩ = some (.int .u64 p) ∧ w'.cell? ⟨r, 1, none⟩ = some (.int .u64 now)) (go_keep)
          (first
            | (go_at_call 12; rw [HX.out]; refine (rbkOpen_o S6.out.drew 1 rfl OK.out HNOW.out bx.1).mono ?_; rintro r' w7 ⟨rfl, s7⟩; have S7 := Lib.hid s7; have q7 := And.intro (s7.blk 2 rfl).four.2.1 (And.intro (s7.blk 2 rfl).four.2.2.1 (rbk_now s7 1 rfl OK2.out (HF.out.2.trans NW.out))); clear s7))
        clear b1 b2 rn q6 q7 S6
        go_wp2_with fail
        go_meet
        exact ⟨s.opn id x, _, rfl, rfl, by rw [HF.out.2]; exact HNOW.out, by rw [HF.out.1]; have := HUN.out; omega, S7.out⟩
      have z0 : (z == 0) = false := beq_eq_false_iff_ne.2 h0
      by_cases h1 : z = 1
      · subst h1
        clear h0 hx bx x
        have BZ := Lib.hid (show ((1 : Int) == 2) = false from rfl)
        have K1 := Lib.hid (bAnswer_o (id := id) SB.out 0 rfl WID.out (by omega) t false)
        have K2 := Lib.hid (fun w6 (H : St w None w6 [BookR g (s.ans id t false), RBK r s, BlkR db 35 #[.int .i64 1, .int .i64 id, .int .u64 p, .int .i64 t]]) => rbkAnswer_o (id := id) H 1 rfl OK.out (by omega) t false)
        have HF := Lib.hid (un_ans (s := s) (id := id) (st := t) (bad := false))
        go_wp2_with fail
        refine K1.out.mono ?_
        rintro e w6 ⟨rfl, s6⟩
        have K3 := Lib.hid (K2.out w6 s6)
        clear b0 b1 b2 b3 rn
        obtain ⟨b0, b1, b2, b3⟩ := (s6.blk 2 rfl).four
        clear s6 K1 K2 SB
        go_wp2_with fail
        refine K3.out.mono ?_
        rintro e w7 ⟨rfl, s7⟩
        have S7 := Lib.hid s7
        clear s7 K3 b0 b1 b2 b3
        go_wp2_with fail
        go_meet
        exact ⟨_, _, rfl, rfl, by rw [HF.out.2]; exact HNOW.out, by have := HUN.out; have := HF.out.1; omega, S7.out⟩
      have z1 : (z == 1) = false := beq_eq_false_iff_ne.2 h1
      by_cases h2 : z = 2
      · subst h2
        clear h0 h1 hx bx x
        have K1 := Lib.hid (bAnswer_o (id := id) SB.out 0 rfl WID.out (by omega) t true)
        have K2 := Lib.hid (fun w6 (H : St w None w6 [BookR g (s.ans id t true), RBK r s, BlkR db 35 #[.int .i64 2, .int .i64 id, .int .u64 p, .int .i64 t]]) => rbkAnswer_o (id := id) H 1 rfl OK.out (by omega) t true)
        have HF := Lib.hid (un_ans (s := s) (id := id) (st := t) (bad := true))
        go_wp2_with fail
        refine K1.out.mono ?_
        rintro e w6 ⟨rfl, s6⟩
        have K3 := Lib.hid (K2.out w6 s6)
        clear b0 b1 b2 b3 rn
        obtain ⟨b0, b1, b2, b3⟩ := (s6.blk 2 rfl).four
        clear s6 K1 K2 SB
        go_wp2_with fail
        refine K3.out.mono ?_
        rintro e w7 ⟨rfl, s7⟩
        have S7 := Lib.hid s7
        clear s7 K3 b0 b1 b2 b3
        go_wp2_with fail
        go_meet
        exact ⟨_, _, rfl, rfl, by rw [HF.out.2]; exact HNOW.out, by have := HUN.out; have := HF.out.1; omega, S7.out⟩
      have z2 : (z == 2) = false := beq_eq_false_iff_ne.2 h2
      by_cases h3 : z = 3
      · subst h3
        clear h0 h1 h2 hx bx x
        have K1 := Lib.hid (bCancel_o (id := id) SB.out 0 rfl WID.out (by omega))
        have K2 := Lib.hid (fun w6 (H : St w None w6 [BookR g (s.out ⟨id, 2, 3⟩), RBK r s, BlkR db 35 #[.int .i64 3, .int .i64 id, .int .u64 p, .int .i64 t]]) => rbkCancel_o (id := id) H 1 rfl OK.out (by omega))
        have HF := Lib.hid (un_out (s := s) (f := ⟨id, 2, 3⟩))
        go_wp2_with fail
        refine K1.out.mono ?_
        rintro e w6 ⟨rfl, s6⟩
        have K3 := Lib.hid (K2.out w6 s6)
        clear b0 b1 b2 b3 rn
        obtain ⟨b0, b1, b2, b3⟩ := (s6.blk 2 rfl).four
        clear s6 K1 K2 SB
        go_wp2_with fail
        refine K3.out.mono ?_
        rintro e w7 ⟨rfl, s7⟩
        have S7 := Lib.hid s7
        clear s7 K3 b0 b1 b2 b3
        go_wp2_with fail
        go_meet
        exact ⟨_, _, rfl, rfl, by rw [HF.out.2]; exact HNOW.out, by have := HUN.out; have := HF.out.1; omega, S7.out⟩
      have z3 : (z == 3) = false := beq_eq_false_iff_ne.2 h3
      by_cases h4 : z = 4
      · subst h4
        have qq := And.intro b2 rn
        have HX := Lib.hid hx
        have OK2 := Lib.hid (OK.out.gon (u := x) bx.1)
        have HF := Lib.hid (un_gon (s := s) (u := x) HNOW.out)
        clear hx b0 b1 b3 h0 h1 h2 h3
        go_wp2_with fail
        go_region_held3 (fun w' => w'.cell? ⟨db, 2, none⟩ = some (.int .u64 p) ∧ w'.cell? ⟨r, 1, none⟩ = some (.int .u64 now)) (go_keep)
          (first
            | (go_at_call 17; rw [HX.out]; refine (bGo_o SB.out.drew 0 rfl bx.1 hun9).mono ?_; rintro r' w6 ⟨B6, n6, d6, o6, rfl, ho6, hn6, hn9, s6⟩; have S6 := Lib.hid s6; have HO6 := Lib.hid (And.intro ho6 hn6); have q6 := And.intro (s6.blk 2 rfl).four.2.2.1 (rbk_now s6 1 rfl OK.out NW.out); clear s6 ho6 hn6))
        clear b2 rn qq SB
        obtain ⟨b2, rn⟩ := q6
        go_wp2_with fail
        have b2' : w6.drew.cell? ⟨db, 2, none⟩ = some (.int .u64 p) := b2
        have rn' : w6.drew.cell? ⟨r, 1, none⟩ = some (.int .u64 now) := rn
        go_region_with (go_at_call 18; rw [HX.out]; refine (rbkGo_o S6.out.drew 1 rfl OK.out bx.1 hun9).mono ?_; rintro r' w7 ⟨B7, n7, d7, o7, rfl, ho7, hn7, s7⟩; have S7 := Lib.hid s7; have HO7 := Lib.hid (And.intro ho7 hn7); clear s7 ho7 hn7)
        all_goals
          clear b2 rn b2' rn' S6
          obtain rfl := HO6.out.1.uniq OK.out HO7.out.1
          obtain rfl := HO6.out.2.symm.trans HO7.out.2
          have SM := Lib.hid (same_c (S7.out.lis 3 rfl) (S7.out.lis 4 rfl) HO6.out.2 (by omega))
          have S8 := Lib.hid (S7.out.take 3)
          clear HO6 HO7
          go_wp2_with fail
          refine SM.out.mono ?_
          rintro e w8 ⟨rfl, hb8⟩
          have S9 := Lib.hid (S8.out.stay hb8)
          clear hb8 SM S8 S7
          go_wp2_with fail
          go_meet
          exact ⟨s.gon x, _, rfl, rfl, HF.out.2, by have := HUN.out; have := HF.out.1; omega, S9.out⟩
      have z4 : (z == 4) = false := beq_eq_false_iff_ne.2 h4
      clear h0 h1 h2 h3 h4 hx bx x
      have K1 := Lib.hid (bOpen_o (id := id) (dead := p) SB.out 0 rfl WID.out wp wp1)
      have K2 := Lib.hid (fun w6 (H : St w None w6 [BookR g (s.opn id p), RBK r s, BlkR db 35 #[.int .i64 z, .int .i64 id, .int .u64 p, .int .i64 t]]) => rbkOpen_o (id := id) (at1 := p) H 1 rfl OK.out HNOW.out wp)
      have HF := Lib.hid (show (s.opn id p).un.length ≤ s.un.length + 1 ∧ (s.opn id p).now = s.now from ⟨by rw [un_opn.1]; omega, un_opn.2⟩)
      go_wp2_with fail
      refine K1.out.mono ?_
      rintro e w6 ⟨rfl, s6⟩
      have K3 := Lib.hid (K2.out w6 s6)
      clear b0 b1 b2 b3 rn
      obtain ⟨b0, b1, b2, b3⟩ := (s6.blk 2 rfl).four
      clear s6 K1 K2 SB
      go_wp2_with fail
      refine K3.out.mono ?_
      rintro e w7 ⟨rfl, s7⟩
      have S7 := Lib.hid s7
      clear s7 K3 b0 b1 b2 b3
      go_wp2_with fail
      go_meet
      exact ⟨_, _, rfl, rfl, by rw [HF.out.2]; exact HNOW.out, by have := HUN.out; have := HF.out.1; omega, S7.out⟩
    case rest =>
      obtain ⟨s', q, rfl, rfl, hnow', hun', s8⟩ := hcut
      clear b0 b1 b2 b3 rn SB OK HNOW HUN hun9 NW hnow n0
      obtain ⟨_, ok1, -⟩ := s8.get 0 rfl
      have OK := Lib.hid ok1
      have HH := Lib.hid (bHas_o s8 0 rfl WID.out)
      have HN' := Lib.hid (And.intro hnow' hun')
      obtain ⟨b0, b1, b2, b3⟩ := (s8.blk 2 rfl).four
      obtain ⟨v1, hv1⟩ : ∃ v, deadO s'.op id = v := ⟨_, rfl⟩
      obtain ⟨v2, hv2⟩ : ∃ v, (slotO s'.op id).isSome = v := ⟨_, rfl⟩
      rw [hv1, hv2] at HH
      have HV12 := Lib.hid (And.intro hv1 hv2)
      clear hv1 hv2 s8 ok1 b0 b2 b3 hnow' hun'
      go_wp2_with fail
      refine HH.out.mono ?_
      rintro e w9 ⟨rfl, s9⟩
      have S9 := Lib.hid s9
      clear s9 HH b1
      go_wp2_with fail
      obtain ⟨l, A9, c9, hl, hlc, rn, rl, ls⟩ := rbk_look S9.out 1 rfl OK.out
      have b1 := (S9.out.blk 2 rfl).four.2.1
      have HL := Lib.hid hl
      have LS := Lib.hid ls
      have HLC := Lib.hid hlc
      obtain ⟨m, hm⟩ : ∃ m, l.length = m := ⟨_, rfl⟩
      have hm64 : m ≤ 64 := by rw [← hm, hlc]; exact cntO_le _
      rw [hm] at rl
      have HM := Lib.hid hm
      have RL1 := Lib.hid rl
      have B1 := Lib.hid b1
      clear hl ls hlc rn hm rl b1
      go_loopw [18, 19, 20] (fun x18 x19 x20 wr => ∃ (j : Nat) (W : Int) (B : Bool), j ≤ m ∧ x20 = .int .i64 (j : Int) ∧ x18 = .int .u64 W ∧ x19 = .bool B ∧ FndL l id j W B ∧ (∀ a, wr.cell? a = w9.cell? a) ∧ St w None wr [BookR g s', RBK r s', BlkR db 35 #[.int .i64 z, .int .i64 id, .int .u64 p, .int .i64 t]]) (fun _ _ i _ => m - (intOf i).toNat)
      case atStart => exact ⟨0, 0, false, by omega, rfl, rfl, rfl, Or.inl ⟨rfl, rfl, fun i x hi => by omega⟩, fun a => rfl, S9.out⟩
      case round =>
      clear S9
      obtain ⟨j, W, B, hj, rfl, rfl, rfl, hfnd, hsame, sr⟩ := hrel
      have rl := (hsame _).trans RL1.out
      have b1 := (hsame _).trans B1.out
      have HS := Lib.hid hsame
      have HFN := Lib.hid hfnd
      have SR := Lib.hid sr
      by_cases hlt : j < m
      · have y1 : decide ((j : Int) < (m : Int)) = true := decide_eq_true (by omega)
        have y1' : decide (j < m) = true := decide_eq_true hlt
        obtain ⟨x, hx⟩ : ∃ x, l[j]? = some x := ⟨_, List.getElem?_eq_getElem (by rw [HM.out]; exact hlt)⟩
        obtain ⟨gb, off9, rfl, m0, m1⟩ := tm_cell LS.out hx
        have m0 := (hsame _).trans m0
        have m1 := (hsame _).trans m1
        obtain ⟨x1, x2⟩ := x
        dsimp only at m0 m1
        have j0 : (0 : Int) ≤ (j : Int) := by omega
        have j1 : (j : Int) < (m : Int) := by omega
        have HX := Lib.hid hx
        by_cases he : x1 = id
        · have y2 : (x1 == id) = true := beq_iff_eq.2 he
          have HR := Lib.hid (show FndL l id (j + 1) x2 true from HFN.out.yes (by rw [← he]; exact hx))
          clear hx hfnd hsame sr he
          go_wp2_with fail
          go_quiet (fail)
          go_wp2_with fail
          go_roundw
          case rel => exact ⟨j + 1, x2, true, by omega, by go_num, rfl, rfl, HR.out, fun a => HS.out a, SR.out.drewN _⟩
          case measure => simp [intOf]; omega
        · have y2 : (x1 == id) = false := beq_eq_false_iff_ne.2 he
          have HR := Lib.hid (HFN.out.no hx he)
          clear hx hfnd hsame sr he
          go_wp2_with fail
          go_quiet (fail)
          go_wp2_with fail
          go_roundw
          case rel => exact ⟨j + 1, W, B, by omega, by go_num, rfl, rfl, HR.out, fun a => HS.out a, SR.out.drewN _⟩
          case measure => simp [intOf]; omega
      · obtain rfl : j = m := by omega
        have y1 : decide ((j : Int) < (j : Int)) = false := decide_eq_false (by omega)
        have y1' : decide (j < j) = false := decide_eq_false hlt
        obtain ⟨u1, u2⟩ := FndL.fin OK.out HL.out (by rw [HM.out]; exact hfnd)
        obtain rfl : v1 = W := HV12.out.1.symm.trans u1
        obtain rfl : v2 = B := HV12.out.2.symm.trans u2
        have CC := Lib.hid (fun a => bCount_q (SR.out.drewN a) 0 rfl)
        rw [show cntO s'.op = j from HLC.out.symm.trans HM.out] at CC
        have y2 : (q != q) = false := by simp
        have y3 : ((j : Int) != (j : Int)) = false := by simp
        have y3' : (j != j) = false := by simp
        have y4 : (v1 != v1) = false := by simp
        have y5 : (v2 != v2) = false := by simp
        clear hfnd hsame sr u1 u2 HV12
        go_wp2_with fail
        go_quiet ((go_at_call 21; exact q_left (CC.out _)))
        go_wp2_with fail
        go_roundw
        case rel => exact ⟨k + 1, s', by omega, by omega, by go_num, HN'.out.1, HN'.out.2, (SR.out.drewN _).take 2⟩
        case measure => simp [intOf]; omega

set_option maxRecDepth 100000 in
theorem lifted (os : Os) (started : os.Started) (H : Type) (enc : TypeId × Value → H) :
    ReturnsInHanded {} Try.checked os 3 .any (Rows.lifePlaysSpec.pre6 enc Try.prog Try.f3 Rows.lifePlaysRow.domain false) (Rows.lifePlaysSpec.post enc Try.prog Try.f3 false true false false) := by
  refine law_lifted (C := Try.checked) (tb := 4) own started (by kernel_rfl) Try.func3
    (ChangeSpec.witness6 (enc := enc) (C := Try.checked) false ⟨#[], #[.int .u64 0, .slice none 0 0], []⟩ 8 (by kernel_rfl) (by kernel_rfl) (by kernel_rfl) (by kernel_rfl)) laid (by kernel_rfl) (by kernel_rfl) Try.underlying4 rfl ?_
  intro W base args ds ps hval0 hA0 hlt
  have hval : ∀ (j : Nat) t v, Try.f3.params[j]? = some t → args[j]? = some v → Value.okWide Try.prog W .any base t v := hval0
  have hA : DataW.TrodAll enc Try.prog W 0 (fun _ => true) true Try.f3.params.toList args.toList ds ps := hA0
  clear hA0 hval0
  rw [Try.params3] at hA hval
  obtain ⟨v0, vs0, d0, ds0, p0, q0, hargs, rfl, rfl, h0, r0⟩ := trodAll_cons hA
  obtain ⟨v1, vs1, d1, ds1, p1, q1, rfl, rfl, rfl, h1, r1⟩ := trodAll_cons r0
  obtain ⟨rfl, rfl, rfl⟩ := trodAll_nil r1
  obtain rfl : args = #[v0, v1] := by cases args; simp_all
  obtain ⟨a0, rfl, rfl, rfl, w0⟩ := open_int Try.underlying22 (hval 0 22 v0 rfl rfl) h0
  obtain ⟨A1, n1, cap1, V1, rfl, le1, mx1, rd1, lf1⟩ := open_slice_spots (m := 4) (d := 20) (l := [(0, 3), (1, 3), (2, 22), (3, 3)]) Try.underlying23 (by kernel_rfl) (by decide) (by kernel_rfl) (hval 1 23 v1 rfl rfl) h1
  have f1_0 := fun j hj => leaf_int Try.underlying3 (lf1 0 3 (by simp) j hj)
  have f1_1 := fun j hj => leaf_int Try.underlying3 (lf1 1 3 (by simp) j hj)
  have f1_2 := fun j hj => leaf_int Try.underlying22 (lf1 2 22 (by simp) j hj)
  have f1_3 := fun j hj => leaf_int Try.underlying3 (lf1 3 3 (by simp) j hj)
  refine ⟨⟨rfl, rfl, rfl⟩, ?_⟩
  exact walk a0 A1 n1 cap1 V1 W (bounds_u64 w0) (by omega) rd1 (fun j hj => by
    obtain ⟨x0, h0, -⟩ := f1_0 j hj
    obtain ⟨x1, h1, b1⟩ := f1_1 j hj
    obtain ⟨x2, h2, b2⟩ := f1_2 j hj
    obtain ⟨x3, h3, -⟩ := f1_3 j hj
    exact ⟨x0, x1, x2, x3, h0, h1, h2, h3, b1, bounds_u64 b2⟩)

theorem over : Rows.lifePlaysRow.holds Try.pinned (OpenSpec.ofChange Rows.lifePlaysSpec) :=
  OpenClaim.holds_of_wide 3 Try.f3 rfl rfl rfl rfl rfl rfl rfl ⟨rfl, rfl, rfl, rfl, rfl⟩ rfl rfl rfl rfl rfl (by kernel_rfl) Try.func3 (by kernel_rfl)
    (of_decide_eq_true (by kernel_rfl)) (by unfold Func.isWrapper; first | (rw [if_pos (by decide +kernel)]; kernel_rfl) | (rw [if_neg (by decide +kernel)]; exact ⟨rfl, rfl⟩))
    (fun os started H enc _ => lifted os started H enc)
theorem proved : Rows.LifePlaysSaid := over
#print axioms proved
end Go.Proofs.Ythdhfjcgboglfaa.lifePlays
