/-
  For every line and every 8-bit number IrqStorm answers true, and changes nothing: the first raise beyond what a window lets is a storm, and masks the line, and nothing else; unmasked it goes on. No condition.
-/
import Derived.Test.YtaoioejgealciaaRows
import Derived.Test.YtaoioejgealciaaFr
import Derived.Test.YtaoioejgealciaaIrqL
namespace Go.Proofs.Ytaoioejgealciaa.irqStorm
open Go.ChangeShapes Go.WideShapes Go.ChangeAt Go.RowKit
set_option linter.unusedVariables false
theorem own : ownKnob Try.prog.godebug = none := by kernel_rfl
theorem laid : laidOutB Try.prog = true := by kernel_rfl
set_option maxRecDepth 100000
set_option maxHeartbeats 1000000
/-- How a line stands to a storm. -/
structure Sg (Sm Sp win rs : Int) (m : Bool) (l : Ln) : Prop where
  ma : l.masked = m
  st : l.St = Sm
  sp : l.Sp = Sp
  wi : l.win = win
  ra : l.raises = rs
theorem Sg.deliver {Sm Sp win rs : Int} {m : Bool} {l : Ln} (h : Sg Sm Sp win rs m l) (t : Int) : Sg Sm Sp win rs m (l.deliver t) := by
  obtain ⟨d1, d2, d3, d4⟩ := deliver_St l t
  exact ⟨(deliver_same l t).2.2.2.2.trans h.ma, d1.trans h.st, d2.trans h.sp, d3.trans h.wi, d4.trans h.ra⟩
theorem Sg.goOn {Sm Sp win rs : Int} {m : Bool} {l : Ln} (h : Sg Sm Sp win rs m l) (t : Int) : Sg Sm Sp win rs m (l.goOn t) := by
  obtain ⟨d1, d2, d3, d4, _⟩ := fired_same2 l t
  have h1 : Sg Sm Sp win rs m (l.fired t) := ⟨(fired_same l t).2.1.trans h.ma, d1.trans h.st, d2.trans h.sp, d3.trans h.wi, d4.trans h.ra⟩
  exact h1.deliver t
theorem Sg.mask {Sm Sp win rs : Int} {m : Bool} {l : Ln} (h : Sg Sm Sp win rs m l) (t : Int) (on : Bool) : Sg Sm Sp win rs on (l.mask t on) := by
  have h1 : Sg Sm Sp win rs on { l with masked := on } := ⟨rfl, h.st, h.sp, h.wi, h.ra⟩
  exact h1.deliver t
theorem Sg.raise_no {Sm Sp win rs c t : Int} {l : Ln} (h : Sg Sm Sp win rs false l) (hc : (if t / Sp = win then rs else 0) + 1 = c) (hl : c ≤ Sm) : (l.raise t).2 = false ∧ Sg Sm Sp (t / Sp) c false (l.raise t).1 := by
  have hr : (l.count t).raises = c := by show (if t / l.Sp = l.win then l.raises else 0) + 1 = c; rw [h.sp, h.wi, h.ra]; exact hc
  have hw : (l.count t).win = t / Sp := by show t / l.Sp = _; rw [h.sp]
  unfold Ln.raise
  rw [if_neg (by rw [h.ma]; decide), if_neg (by rw [h.st, hr]; omega)]
  refine ⟨rfl, ?_⟩
  have hg : ((l.count t).gathered t).Sp = l.Sp ∧ ((l.count t).gathered t).win = (l.count t).win ∧ ((l.count t).gathered t).raises = (l.count t).raises := by
    unfold Ln.gathered; split <;> exact ⟨rfl, rfl, rfl⟩
  have hx : Sg Sm Sp (t / Sp) c false ((l.count t).gathered t) := ⟨(gathered_masked _ _).1.trans h.ma, (gathered_masked _ _).2.2.2.trans h.st, hg.1.trans h.sp, hg.2.1.trans hw, hg.2.2.trans hr⟩
  exact hx.deliver t
theorem Sg.raise_storm {Sm Sp win rs c t : Int} {l : Ln} (h : Sg Sm Sp win rs false l) (hc : (if t / Sp = win then rs else 0) + 1 = c) (hl : Sm < c) : (l.raise t).2 = true ∧ Sg Sm Sp (t / Sp) c true (l.raise t).1 := by
  have hr : (l.count t).raises = c := by show (if t / l.Sp = l.win then l.raises else 0) + 1 = c; rw [h.sp, h.wi, h.ra]; exact hc
  have hw : (l.count t).win = t / Sp := by show t / l.Sp = _; rw [h.sp]
  unfold Ln.raise
  rw [if_neg (by rw [h.ma]; decide), if_pos (by rw [h.st, hr]; omega)]
  exact ⟨rfl, rfl, h.st, h.sp, hw, hr⟩
theorem Sg.raise_masked {Sm Sp win rs t : Int} {l : Ln} (h : Sg Sm Sp win rs true l) : l.raise t = (l, false) := by
  unfold Ln.raise; rw [if_pos h.ma]
theorem rdm_box2 (w : World) (e : TypeId) (x0 x1 x2 x3 x4 x5 : Value) : RdM (w.alloc (.cells #[x0, x1, x2, x3, x4, x5, x0, x1, x2, x3, x4, x5] e)) (some ⟨w.heap.size, 0, none⟩) 2 6 (fun _ i => #[x0, x1, x2, x3, x4, x5].getD i x0) := fun _ =>
  ⟨_, _, rfl, by simp, fun j hj i hi => by
    have h := (Blk.new w e #[x0, x1, x2, x3, x4, x5, x0, x1, x2, x3, x4, x5]).cell (0 + (j * 6 + i))
    rw [h]
    have hc : (j = 0 ∨ j = 1) ∧ (i = 0 ∨ i = 1 ∨ i = 2 ∨ i = 3 ∨ i = 4 ∨ i = 5) := ⟨by omega, by omega⟩
    rcases hc with ⟨rfl | rfl, rfl | rfl | rfl | rfl | rfl | rfl⟩ <;> rfl⟩
/-- The two lines ahead of raise k + 1: the first is masked from the storm on. -/
structure Two (Sm Sp : Int) (k : Nat) (ls : Nat → Ln) : Prop where
  o0 : (ls 0).ok 0 k
  o1 : (ls 1).ok 0 0
  m1 : (ls 1).masked = false
  lo : (k : Int) ≤ Sm → Sg Sm Sp 0 k false (ls 0)
  hi : Sm < (k : Int) → Sg Sm Sp 0 (Sm + 1) true (ls 0)
theorem Two.step {Sm Sp : Int} {k : Nat} {ls : Nat → Ln} (h : Two Sm Sp k ls) (hk : k ≤ 200) : (((ls 0).goOn 0).raise 0).2 = decide ((k : Int) = Sm) ∧ Two Sm Sp (k + 1) (updL (goAll ls 0 2) 0 (((ls 0).goOn 0).raise 0).1) := by
  have g0 := Ln.goOn_ok h.o0 (Int.le_refl 0) (Int.le_refl 0) (by omega)
  have g1 := Ln.goOn_ok h.o1 (Int.le_refl 0) (Int.le_refl 0) (by omega)
  have r0 := Ln.raise_ok g0 (Int.le_refl 0) (by omega) (by omega)
  have e1 : updL (goAll ls 0 2) 0 (((ls 0).goOn 0).raise 0).1 1 = (ls 1).goOn 0 := rfl
  have e0 : updL (goAll ls 0 2) 0 (((ls 0).goOn 0).raise 0).1 0 = (((ls 0).goOn 0).raise 0).1 := rfl
  have m1 : ((ls 1).goOn 0).masked = false := by
    unfold Ln.goOn; rw [(deliver_same _ _).2.2.2.2, (fired_same _ _).2.1]; exact h.m1
  have z : (0 : Int) / Sp = 0 := Int.zero_ediv _
  by_cases c1 : (k : Int) < Sm
  · obtain ⟨a, b⟩ := ((h.lo (by omega)).goOn 0).raise_no (t := 0) (c := (k : Int) + 1) (by rw [z, if_pos rfl]) (by omega)
    rw [z] at b
    exact ⟨by rw [a]; exact (decide_eq_false (by omega)).symm, by rw [e0]; exact_mod_cast r0, by rw [e1]; exact g1, by rw [e1]; exact m1, fun _ => by rw [e0]; exact_mod_cast b, fun hh => by omega⟩
  by_cases c2 : (k : Int) = Sm
  · obtain ⟨a, b⟩ := ((h.lo (by omega)).goOn 0).raise_storm (t := 0) (c := (k : Int) + 1) (by rw [z, if_pos rfl]) (by omega)
    rw [z] at b
    exact ⟨by rw [a]; exact (decide_eq_true c2).symm, by rw [e0]; exact_mod_cast r0, by rw [e1]; exact g1, by rw [e1]; exact m1, fun hh => by omega, fun _ => by rw [e0, show Sm + 1 = (k : Int) + 1 by omega]; exact b⟩
  · have b := (h.hi (by omega)).goOn 0
    have a := b.raise_masked (t := 0)
    refine ⟨by rw [a]; exact (decide_eq_false c2).symm, by rw [e0]; exact_mod_cast r0, by rw [e1]; exact g1, by rw [e1]; exact m1, fun hh => by omega, fun _ => by rw [e0, a]; exact b⟩
theorem New2_o {w0 w : World} {S0 : Nat → Prop} {X : List Res} (Hs : St w0 S0 w X) (A : Option Addr) (cap : Nat) (V : Nat → Nat → Value) (rd : RdM w A 2 6 V) {C H D E Sm Sp : Int}
    (hV : ∀ k, k < 2 → V k 0 = .int .i64 C ∧ V k 1 = .int .u64 H ∧ V k 2 = .int .i64 D ∧ V k 3 = .int .u64 E ∧ V k 4 = .int .i64 Sm ∧ V k 5 = .int .u64 Sp) (hmay : mayL C H D E Sm Sp) :
    Calls Try.prog 10 #[.slice A 2 cap] w fun e w' => ∃ c gb bb, e = .returned (.tuple #[.pointer (some ⟨c, 0, none⟩), .int .i64 0]) ∧ St w0 S0 w' (IL c 2 2 0 (fun _ => Ln.new C H D E Sm Sp) gb bb X) := by
  let cf : Nat → Nat → Int := fun _ q => match q with | 0 => C | 1 => H | 2 => D | 3 => E | 4 => Sm | _ => Sp
  refine (New_c (n := 2) A cap V rd cf hV (fun k hk => hmay) (by omega) (by omega)).mono ?_
  rintro e w' ⟨c, gb, bb, he, s⟩
  refine ⟨c, gb, bb, he, ?_⟩
  have j := (Hs.join s).comm
  rw [il_app] at j
  exact j
theorem two_new {C H D E Sm Sp : Int} (h : mayL C H D E Sm Sp) : Two Sm Sp 0 (fun _ => Ln.new C H D E Sm Sp) :=
  ⟨Ln.new_ok h, Ln.new_ok h, rfl, fun _ => ⟨rfl, rfl, rfl, rfl, rfl⟩, fun hh => by have := h.2.2.1; omega⟩
theorem Two.oks {Sm Sp : Int} {k : Nat} {ls : Nat → Ln} (h : Two Sm Sp k ls) : ∀ j, j < 2 → (ls j).ok 0 ((fun j => if j = 0 then (k : Int) else 0) j) := fun j hj => by
  have hc : j = 0 ∨ j = 1 := by omega
  rcases hc with rfl | rfl
  · exact h.o0
  · exact h.o1
theorem walk (C H D E Sm Sp a : Int) (w : World) (hH : 0 ≤ H) (ba : 0 ≤ a ∧ a ≤ 255) :
    Calls Try.prog 4 #[.agg #[.int .i64 C, .int .u64 H, .int .i64 D, .int .u64 E, .int .i64 Sm, .int .u64 Sp], .int .u8 a] w fun r w' => r = .returned (.bool true) ∧ Below w.heap.size w w' := by
  have s0 : St w None _ [BlkR w.heap.size 24 #[.int .i64 C, .int .u64 H, .int .i64 D, .int .u64 E, .int .i64 Sm, .int .u64 Sp]] := (St.begin w).box 24 #[.int .i64 C, .int .u64 H, .int .i64 D, .int .u64 E, .int .i64 Sm, .int .u64 Sp]
  have S0 := Lib.hid s0
  clear s0
  by_cases hmay : mayL C H D E Sm Sp
  case neg =>
    have RM := Lib.hid (fun w => rmay_c C H D E Sm Sp w false (decide_eq_false hmay).symm hH)
    clear hmay
    go_enter Try.func4, Try.ntmps4
    go_wp2_with fail
    refine (awake_c _).mono ?_
    rintro e w1 ⟨rfl, hb1⟩
    have s1 := S0.out.stay hb1
    obtain ⟨c0, c1, c2, c3, c4, c5⟩ := (s1.blk 0 rfl).six
    have S1 := Lib.hid s1
    clear s1 hb1
    go_wp2_with fail
    refine (RM.out _).mono ?_
    rintro e w2 ⟨rfl, hb2⟩
    have s2 := S1.out.stay hb2
    clear hb2 c0 c1 c2 c3 c4 c5
    obtain ⟨c0, c1, c2, c3, c4, c5⟩ := (s2.blk 0 rfl).six
    have S2 := Lib.hid s2.below
    clear s2 S1
    go_wp2_with fail
    go_ret
    exact ⟨rfl, S2.out⟩
  have RM := Lib.hid (fun w => rmay_c C H D E Sm Sp w true (decide_eq_true hmay).symm hH)
  have HM := Lib.hid hmay
  by_cases h30 : 100 < Sm
  case pos =>
    have d1 : decide (100 < Sm) = true := decide_eq_true h30
    clear hmay h30
    go_enter Try.func4, Try.ntmps4
    go_wp2_with fail
    refine (awake_c _).mono ?_
    rintro e w1 ⟨rfl, hb1⟩
    have s1 := S0.out.stay hb1
    obtain ⟨c0, c1, c2, c3, c4, c5⟩ := (s1.blk 0 rfl).six
    have S1 := Lib.hid s1
    clear s1 hb1
    go_wp2_with fail
    refine (RM.out _).mono ?_
    rintro e w2 ⟨rfl, hb2⟩
    have s2 := S1.out.stay hb2
    clear hb2 c0 c1 c2 c3 c4 c5
    obtain ⟨c0, c1, c2, c3, c4, c5⟩ := (s2.blk 0 rfl).six
    have S2 := Lib.hid s2.below
    clear s2 S1
    go_wp2_with fail
    go_ret
    exact ⟨rfl, S2.out⟩
  have d1 : decide (100 < Sm) = false := decide_eq_false h30
  obtain ⟨⟨hs1, hs2⟩, hp1, hp2⟩ := hmay.2.2
  obtain ⟨r, hr⟩ : ∃ r, Int.tmod a 9 = r := ⟨_, rfl⟩
  obtain ⟨ba0, ba1⟩ := ba
  have er : a % 9 = r := by rw [← hr, Int.tmod_eq_emod_of_nonneg ba0]
  have r0 : 0 ≤ r := by omega
  have r1 : r < 9 := by omega
  clear hmay
  go_enter Try.func4, Try.ntmps4
  go_wp2_with fail
  refine (awake_c _).mono ?_
  rintro e w1 ⟨rfl, hb1⟩
  have s1 := S0.out.stay hb1
  obtain ⟨c0, c1, c2, c3, c4, c5⟩ := (s1.blk 0 rfl).six
  have S1 := Lib.hid s1
  clear s1 hb1
  go_wp2_with fail
  refine (RM.out _).mono ?_
  rintro e w2 ⟨rfl, hb2⟩
  have s2 := S1.out.stay hb2
  clear hb2 c0 c1 c2 c3 c4 c5
  obtain ⟨c0, c1, c2, c3, c4, c5⟩ := (s2.blk 0 rfl).six
  have N0 := (New2_o (s2.alloc (.cells #[.int .i64 C, .int .u64 H, .int .i64 D, .int .u64 E, .int .i64 Sm, .int .u64 Sp, .int .i64 C, .int .u64 H, .int .i64 D, .int .u64 E, .int .i64 Sm, .int .u64 Sp] 24)) _ 2 _ (rdm_box2 _ 24 _ _ _ _ _ _) (C := C) (H := H) (D := D) (E := E) (Sm := Sm) (Sp := Sp) (fun k hk => ⟨rfl, rfl, rfl, rfl, rfl, rfl⟩) HM.out)
  have N1 := Lib.hid N0
  clear s2 N0 S1
  go_wp2_with fail
  refine N1.out.mono ?_
  rintro e w4 ⟨c, gb, bb, rfl, s4⟩
  have S4 := Lib.hid s4
  clear s4 N1 c0 c1 c2 c3 c4 c5 RM
  generalize hg : w.heap.size = g at S4 ⊢
  go_wp2_with fail
  have s5 := S4.out
  clear S4 S0
  go_loopw [7] (fun x7 wr => ∃ (k : Nat) (ls : Nat → Ln) (gb : Nat → Nat), (k : Int) ≤ Sm + r ∧ x7 = .int .i64 ((k : Int) + 1) ∧ St w None wr (IL c 2 2 0 ls gb bb [BlkR g 24 #[.int .i64 C, .int .u64 H, .int .i64 D, .int .u64 E, .int .i64 Sm, .int .u64 Sp]]) ∧ Two Sm Sp k ls) (fun x7 _ => (Sm + r).toNat + 1 - (intOf x7).toNat)
  case atStart => exact ⟨0, _, gb, by omega, rfl, s5, two_new HM.out⟩
  case round =>
    clear s5
    obtain ⟨k, ls, gb, hk, rfl, sr, h2⟩ := hrel
    have H2 := Lib.hid h2
    obtain ⟨-, -, -, -, b4, b5⟩ := (sr.blk (1 + 2 + 2 + 0) (il_x rfl)).six
    have k0 : (0 : Int) ≤ (k : Int) := by omega
    by_cases hlt : (k : Int) < Sm + r
    · have d3 : decide ((k : Int) + 1 ≤ Sm + r) = true := decide_eq_true (by omega)
      obtain ⟨ra, ht⟩ := h2.step (by omega)
      have C1 := Lib.hid (Raise_o (i := 0) (t := 0) sr (by omega) (by omega) h2.oks (Int.le_refl 0) (Int.le_refl 0) (by omega) (by show (k : Int) + 1 ≤ _; omega))
      rw [ra] at C1
      have HT := Lib.hid ht
      clear sr h2 ht ra
      go_wp2_with fail
      refine C1.out.mono ?_
      rintro e w6 ⟨rfl, g6, s6⟩
      obtain ⟨-, -, -, -, q4, q5⟩ := (s6.blk (1 + 2 + 2 + 0) (il_x rfl)).six
      have S6 := Lib.hid s6
      clear s6 C1 b4 b5
      have dk : decide ((k : Int) + 1 = Sm + 1) = decide ((k : Int) = Sm) := by by_cases e : (k : Int) = Sm <;> simp [e]
      by_cases ek : (k : Int) = Sm
      · have e1 : decide ((k : Int) = Sm) = true := decide_eq_true ek
        have e2 : ((k : Int) + 1 == Sm + 1) = true := beq_iff_eq.2 (by omega)
        go_wp2_with fail
        go_roundw
        case rel => exact ⟨k + 1, _, g6, by omega, by go_num, S6.out, HT.out⟩
        case measure => simp [intOf]; omega
      · have e1 : decide ((k : Int) = Sm) = false := decide_eq_false ek
        have e2 : ((k : Int) + 1 == Sm + 1) = false := beq_eq_false_iff_ne.2 (by omega)
        go_wp2_with fail
        go_roundw
        case rel => exact ⟨k + 1, _, g6, by omega, by go_num, S6.out, HT.out⟩
        case measure => simp [intOf]; omega
    have d3 : decide ((k : Int) + 1 ≤ Sm + r) = false := decide_eq_false (by omega)
    obtain ⟨mb, cc, hmb, hsg⟩ : ∃ mb cc, mb = decide (0 < r) ∧ Sg Sm Sp 0 cc mb (ls 0) := by
      by_cases h : 0 < r
      · exact ⟨true, _, (decide_eq_true h).symm, h2.hi (by omega)⟩
      · exact ⟨false, _, (decide_eq_false h).symm, h2.lo (by omega)⟩
    have HSG := Lib.hid hsg
    have HMB := Lib.hid hmb
    have CS0 := Lib.hid (State_o sr (by omega) (show 0 < 2 by omega))
    rw [hsg.ma, hmb] at CS0
    clear sr h2 hsg hmb hlt
    go_wp2_with fail
    refine CS0.out.mono ?_
    rintro e w5 ⟨rfl, s5⟩
    have CS1 := Lib.hid (State_o s5 (by omega) (show 1 < 2 by omega))
    rw [H2.out.m1] at CS1
    clear s5 CS0 b4 b5
    go_wp2_with fail
    refine CS1.out.mono ?_
    rintro e w6 ⟨rfl, s6⟩
    obtain ⟨-, -, -, -, b4, b5⟩ := (s6.blk (1 + 2 + 2 + 0) (il_x rfl)).six
    have S6 := Lib.hid s6
    clear s6 CS1
    by_cases h39 : 549755813888 ≤ Sp
    · have d5 : decide (549755813888 ≤ Sp) = true := decide_eq_true h39
      have SB := Lib.hid S6.out.below
      by_cases hr0 : 0 < r
      · have d6 : decide (0 < r) = true := decide_eq_true hr0
        go_wp2_with fail
        go_ret
        exact ⟨rfl, SB.out⟩
      · have d6 : decide (0 < r) = false := decide_eq_false hr0
        go_wp2_with fail
        go_ret
        exact ⟨rfl, SB.out⟩
    have d5 : decide (549755813888 ≤ Sp) = false := decide_eq_false h39
    have CM := Lib.hid (Mask_o (i := 0) (t := Sp) false S6.out (by omega) (by omega) H2.out.oks (Int.le_refl 0) (by omega) (by omega))
    have oL : (((ls 0).goOn Sp).mask Sp false).ok Sp k := Ln.mask_ok (Ln.goOn_ok H2.out.o0 (by omega) (by omega) (by omega)) (by omega) false
    have o1 : ((ls 1).goOn Sp).ok Sp 0 := Ln.goOn_ok H2.out.o1 (by omega) (by omega) (by omega)
    have gL := (HSG.out.goOn Sp).mask Sp false
    have ok2 : ∀ j, j < 2 → (updL (goAll ls Sp 2) 0 (((ls 0).goOn Sp).mask Sp false) j).ok Sp ((fun j => if j = 0 then (k : Int) else 0) j) := fun j hj => by
      have hc : j = 0 ∨ j = 1 := by omega
      rcases hc with rfl | rfl
      · exact oL
      · exact o1
    have OK2 := Lib.hid ok2
    obtain ⟨L0, hL0⟩ : ∃ L0, ((ls 0).goOn Sp).mask Sp false = L0 := ⟨_, rfl⟩
    rw [hL0] at CM gL OK2
    obtain ⟨ra, rg⟩ := (gL.goOn Sp).raise_no (t := Sp) (c := 1) (by rw [Int.ediv_self (by omega), if_neg (by decide), Int.zero_add]) (by omega)
    have RA := Lib.hid ra
    have RG := Lib.hid rg
    clear oL o1 gL ok2 hL0 ra rg S6
    have d7 : decide (0 < r) = true ∨ decide (0 < r) = false := by cases decide (0 < r) <;> simp
    rcases d7 with d6 | d6
    all_goals
      go_wp2_with fail
      refine CM.out.mono ?_
      rintro e w7 ⟨rfl, s7⟩
      obtain ⟨-, -, -, -, q4, q5⟩ := (s7.blk (1 + 2 + 2 + 0) (il_x rfl)).six
      have CR := Lib.hid (Raise_o (i := 0) (t := Sp) s7 (by omega) (by omega) OK2.out (by omega) (Int.le_refl _) (by omega) (by show (k : Int) + 1 ≤ _; omega))
      rw [updL_same, RA.out] at CR
      clear s7 CM b4 b5
      go_wp2_with fail
      refine CR.out.mono ?_
      rintro e w8 ⟨rfl, g8, s8⟩
      have CS := Lib.hid (State_o s8 (by omega) (show 0 < 2 by omega))
      rw [updL_same, RG.out.ma] at CS
      clear s8 CR q4 q5
      go_wp2_with fail
      refine CS.out.mono ?_
      rintro e w9 ⟨rfl, s9⟩
      have S9 := Lib.hid s9.below
      clear s9 CS
      go_wp2_with fail
      go_ret
      exact ⟨rfl, S9.out⟩

set_option maxRecDepth 100000 in
theorem lifted (os : Os) (started : os.Started) (H : Type) (enc : TypeId × Value → H) :
    ReturnsInHanded {} Try.checked os 4 .any (Rows.irqStormSpec.pre6 enc Try.prog Try.f4 Rows.irqStormRow.domain false) (Rows.irqStormSpec.post enc Try.prog Try.f4 false true false false) := by
  refine law_lifted (C := Try.checked) (tb := 4) own started (by kernel_rfl) Try.func4
    (ChangeSpec.witness6 (enc := enc) (C := Try.checked) false ⟨#[], #[.agg #[.int .i64 0, .int .u64 0, .int .i64 0, .int .u64 0, .int .i64 0, .int .u64 0], .int .u8 0], []⟩ 8 (by kernel_rfl) (by kernel_rfl) (by kernel_rfl) (by kernel_rfl)) laid (by kernel_rfl) (by kernel_rfl) Try.underlying4 rfl ?_
  intro W base args ds ps hval0 hA0 hlt
  have hval : ∀ (j : Nat) t v, Try.f4.params[j]? = some t → args[j]? = some v → Value.okWide Try.prog W .any base t v := hval0
  have hA : DataW.TrodAll enc Try.prog W 0 (fun _ => true) true Try.f4.params.toList args.toList ds ps := hA0
  clear hA0 hval0
  rw [Try.params4] at hA hval
  obtain ⟨v0, vs0, d0, ds0, p0, q0, hargs, rfl, rfl, h0, r0⟩ := trodAll_cons hA
  obtain ⟨v1, vs1, d1, ds1, p1, q1, rfl, rfl, rfl, h1, r1⟩ := trodAll_cons r0
  obtain ⟨rfl, rfl, rfl⟩ := trodAll_nil r1
  obtain rfl : args = #[v0, v1] := by cases args; simp_all
  obtain ⟨cs0, rfl, sz0, ok0⟩ := open_flat (ts := [3, 22, 3, 22, 3, 22]) (Or.inl ⟨_, Try.underlying24⟩) (by kernel_rfl) (by kernel_rfl) (hval 0 24 v0 rfl rfl)
  obtain ⟨c0_0, c0_1, c0_2, c0_3, c0_4, c0_5, rfl⟩ := size6 sz0
  obtain ⟨a0_0, rfl, w0_0⟩ := cell_int Try.underlying3 (ok0 0 _ _ rfl rfl)
  obtain ⟨a0_1, rfl, w0_1⟩ := cell_int Try.underlying22 (ok0 1 _ _ rfl rfl)
  obtain ⟨a0_2, rfl, w0_2⟩ := cell_int Try.underlying3 (ok0 2 _ _ rfl rfl)
  obtain ⟨a0_3, rfl, w0_3⟩ := cell_int Try.underlying22 (ok0 3 _ _ rfl rfl)
  obtain ⟨a0_4, rfl, w0_4⟩ := cell_int Try.underlying3 (ok0 4 _ _ rfl rfl)
  obtain ⟨a0_5, rfl, w0_5⟩ := cell_int Try.underlying22 (ok0 5 _ _ rfl rfl)
  obtain ⟨a1, rfl, rfl, rfl, w1⟩ := open_int Try.underlying5 (hval 1 5 v1 rfl rfl) h1
  refine ⟨⟨rfl, rfl, rfl⟩, ?_⟩
  exact walk a0_0 a0_1 a0_2 a0_3 a0_4 a0_5 a1 W (bounds_u64 w0_1).1 (bounds_u8 w1)

theorem over : Rows.irqStormRow.holds Try.pinned (OpenSpec.ofChange Rows.irqStormSpec) :=
  OpenClaim.holds_of_wide 4 Try.f4 rfl rfl rfl rfl rfl rfl rfl ⟨rfl, rfl, rfl, rfl, rfl⟩ rfl rfl rfl rfl rfl (by kernel_rfl) Try.func4 (by kernel_rfl)
    (of_decide_eq_true (by kernel_rfl)) (by unfold Func.isWrapper; first | (rw [if_pos (by decide +kernel)]; kernel_rfl) | (rw [if_neg (by decide +kernel)]; exact ⟨rfl, rfl⟩))
    (fun os started H enc _ => lifted os started H enc)
theorem proved : Rows.IrqStormSaid := over
#print axioms proved
end Go.Proofs.Ytaoioejgealciaa.irqStorm
