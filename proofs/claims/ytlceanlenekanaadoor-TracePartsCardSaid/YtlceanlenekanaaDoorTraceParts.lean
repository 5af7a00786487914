/-
  For every record TraceParts answers true, and changes nothing: the text of a record of at most 40 entries a list that may be begins with that of who ran alone, and of the record without its outcomes; with each outcome more it goes on by a mark. Condition: the tables that the row lists hold what the program's text lays in them.
-/
import Derived.Test.YtlceanlenekanaaDoorRows
import Derived.Test.YtlceanlenekanaaDoorFr
import Derived.Test.YtlceanlenekanaaDoorFrL
import Derived.Test.YtlceanlenekanaaDoorCards
import Derived.Test.YtlceanlenekanaaDoorTie
import Derived.SevenTiedAt
import Derived.Test.YtlceanlenekanaaDoorTraW
import Derived.Test.YtlceanlenekanaaDoorOpS
import Derived.Deep.RegionHeld3
namespace Go.Proofs.YtlceanlenekanaaDoor.traceParts
open Go.ChangeShapes Go.WideShapes Go.ChangeAt Go.RowKit
set_option linter.unusedVariables false
theorem own : ownKnob Tryd.prog.godebug = none := by kernel_rfl
theorem laid : laidOutB Tryd.prog = true := by kernel_rfl
set_option maxHeartbeats 4000000
set_option maxRecDepth 100000
theorem walk (t : Tk) (A1 A2 A3 A4 : Option Addr) (n1 n2 n3 n4 c1 c2 c3 c4 : Nat) (W : World) (hT : TabB W.heap.size W) (hN : TkN t n1 n2 n3 n4) (a1 : RdI W A1 t.dn) (a2 : RdI W A2 t.ct) (a3 : RdI W A3 t.ms) (a4 : RdF W A4 t.ft)
    (hw : -9223372036854775808 ≤ t.who ∧ t.who ≤ 9223372036854775807) :
    Calls Tryd.prog 4 #[.agg #[.int .i64 t.who, .slice A1 n1 c1, .slice A2 n2 c2, .slice A3 n3 c3, .slice A4 n4 c4]] W fun e W' => e = .returned (.bool true) ∧ Below W.heap.size W W' := by
  obtain ⟨iF, hiF, hzF, hsF, hbF⟩ := info3c YtlceanlenekanaaDooriF
  obtain ⟨a, ha⟩ : ∃ a, W.heap.size = a := ⟨_, rfl⟩
  have s0 := (St.begin W).box 27 #[.int .i64 t.who, .slice A1 n1 c1, .slice A2 n2 c2, .slice A3 n3 c3, .slice A4 n4 c4]
  rw [ha] at s0
  have HT := Lib.hid (fun (w' : World) (hb : Below W.heap.size W w') => tab_up (TabB.at_ hT (Nat.le_refl _) hb) hb.size)
  have KA := Lib.hid (awake_c _ (HT.out _ s0.below))
  have HB := Lib.hid s0
  have KS := Lib.hid (fun (w : World) => small25_o t.who A1 A2 A3 A4 n1 n2 n3 n4 c1 c2 c3 c4 w)
  clear s0 hT
  cases hs1 : smallN n1 n2 n3 n4 with
  | false =>
    rw [hs1] at KS
    clear hs1
    go_enter Tryd.func4, Tryd.ntmps4
    go_wp2_with (first | (have HX := S1.out.below; go_at_call 7; refine (KS.out _).mono ?_; clear HX; rintro e w2 ⟨rfl, hb2⟩; have S2 := Lib.hid (S1.out.stay hb2); clear hb2; obtain ⟨p0, p1, p2, p3, p4⟩ := (S2.out.blk 0 rfl).five5) | (go_at_call 6; refine KA.out.mono ?_; rintro e w1 ⟨rfl, hb1⟩; have S1 := Lib.hid (HB.out.stay hb1); clear hb1; obtain ⟨p0, p1, p2, p3, p4⟩ := (S1.out.blk 0 rfl).five5) | fail)
    go_ret
    exact ⟨rfl, S2.out.below⟩
  | true =>
  have hq1 := hs1
  unfold smallN at hq1
  simp only [Bool.and_eq_true, decide_eq_true_eq] at hq1
  obtain ⟨⟨⟨k1, k2⟩, k3⟩, k4⟩ := hq1
  have At : (Rec.mk t A1 A2 A3 A4 n1 n2 n3 n4 c1 c2 c3 c4).At W := ⟨hN.1, hN.2.1, hN.2.2.1, hN.2.2.2, by dsimp only; omega, by dsimp only; omega, by dsimp only; omega, by dsimp only; omega, a1, a2, a3, a4⟩
  rw [hs1] at KS
  have K1 := Lib.hid (fun (w : World) (h : Below W.heap.size W w) => ttext_o _ w (At.on h) hw (HT.out w h))
  have KM := Lib.hid (fun (w : World) (h : Below W.heap.size W w) => rmay25_o _ w (At.on h))
  have K2 := Lib.hid (fun (w : World) (h : Below W.heap.size W w) (i c4' : Nat) (B4 : Option Addr) (hi : i ≤ n4) (hr : RdF w B4 (t.ft.take i)) => ttext_o (Rec.mk (pfT t i) A1 A2 A3 B4 n1 n2 n3 i c1 c2 c3 c4') w ⟨hN.1, hN.2.1, hN.2.2.1, by show (t.ft.take i).length = i; rw [List.length_take, hN.2.2.2]; omega, by dsimp only; omega, by dsimp only; omega, by dsimp only; omega, by dsimp only; omega, a1.on2 h, a2.on2 h, a3.on2 h, hr⟩ hw (HT.out w h))
  have K3 := Lib.hid (fun (w : World) (h : Below W.heap.size W w) => ttext_o (Rec.mk (whT t.who) none none none none 0 0 0 0 0 0 0 0) w ⟨rfl, rfl, rfl, rfl, by dsimp only; omega, by dsimp only; omega, by dsimp only; omega, by dsimp only; omega, rdI_nil _ _, rdI_nil _ _, rdI_nil _ _, rdF_nil _ _⟩ hw (HT.out w h))
  have HA4 := Lib.hid (fun (w : World) (h : Below W.heap.size W w) => a4.on h)
  have hn4 : t.ft.length = n4 := hN.2.2.2
  have HN4 := Lib.hid hn4
  clear hs1 At a1 a2 a3 a4 hw hN
  cases hm : mayT t with
  | false =>
    unfold Rec.cells at KM
    rw [hm] at KM
    dsimp only at KM
    clear hm
    go_enter Tryd.func4, Tryd.ntmps4
    go_wp2_with (first | (have HX := S2.out.below; go_at_call 11; refine (KM.out _ HX).mono ?_; clear HX; rintro e w3 ⟨rfl, hb3⟩; have S3 := Lib.hid (S2.out.stay hb3); clear hb3; obtain ⟨p0, p1, p2, p3, p4⟩ := (S3.out.blk 0 rfl).five5) | (have HX := S1.out.below; go_at_call 7; refine (KS.out _).mono ?_; clear HX; rintro e w2 ⟨rfl, hb2⟩; have S2 := Lib.hid (S1.out.stay hb2); clear hb2; obtain ⟨p0, p1, p2, p3, p4⟩ := (S2.out.blk 0 rfl).five5) | (go_at_call 6; refine KA.out.mono ?_; rintro e w1 ⟨rfl, hb1⟩; have S1 := Lib.hid (HB.out.stay hb1); clear hb1; obtain ⟨p0, p1, p2, p3, p4⟩ := (S1.out.blk 0 rfl).five5) | fail)
    go_ret
    exact ⟨rfl, S3.out.below⟩
  | true =>
  unfold Rec.cells at KM
  rw [hm] at KM
  obtain ⟨sF, sFe, sFl⟩ := stV_of (txB t)
  obtain ⟨sW, sWe, sWl⟩ := stV_of (txB (whT t.who))
  obtain ⟨s0, s0e, s0l⟩ := stV_of (txB (pfT t 0))
  have xF : stV (txO t) = .string sF := by rw [show txO t = txB t from if_pos hm]; exact sFe
  have xW : stV (txO (whT t.who)) = .string sW := by rw [show txO (whT t.who) = _ from if_pos (wh_may hm)]; exact sWe
  have x0 : stV (txO (pfT t 0)) = .string s0 := by rw [show txO (pfT t 0) = _ from if_pos (pf_may hm 0)]; exact s0e
  have K0 := Lib.hid (fun (w : World) (h : Below W.heap.size W w) => K2.out w h 0 0 none (Nat.zero_le _) (rdF_nil _ _))
  replace K0 : RowKit.Hid (∀ (w : World) (h : Below W.heap.size W w), Calls Tryd.prog 8 #[.agg #[.int .i64 t.who, .slice A1 n1 c1, .slice A2 n2 c2, .slice A3 n3 c3, .slice none 0 0]] w fun e w' => e = .returned (.string s0) ∧ Below w.heap.size w w') := Lib.hid fun w h => by have := K0.out w h; rw [show stV (txO (Rec.mk (pfT t 0) A1 A2 A3 none n1 n2 n3 0 c1 c2 c3 0).t) = .string s0 from x0] at this; exact this
  replace K1 : RowKit.Hid (∀ (w : World) (h : Below W.heap.size W w), Calls Tryd.prog 8 #[.agg #[.int .i64 t.who, .slice A1 n1 c1, .slice A2 n2 c2, .slice A3 n3 c3, .slice A4 n4 c4]] w fun e w' => e = .returned (.string sF) ∧ Below w.heap.size w w') := Lib.hid fun w h => by have := K1.out w h; rw [show stV (txO (Rec.mk t A1 A2 A3 A4 n1 n2 n3 n4 c1 c2 c3 c4).t) = .string sF from xF] at this; exact this
  replace K3 : RowKit.Hid (∀ (w : World) (h : Below W.heap.size W w), Calls Tryd.prog 8 #[.agg #[.int .i64 t.who, .slice none 0 0, .slice none 0 0, .slice none 0 0, .slice none 0 0]] w fun e w' => e = .returned (.string sW) ∧ Below w.heap.size w w') := Lib.hid fun w h => by have := K3.out w h; rw [show stV (txO (Rec.mk (whT t.who) none none none none 0 0 0 0 0 0 0 0).t) = .string sW from xW] at this; exact this
  have KI : RowKit.Hid (∀ (i : Nat), i ≤ n4 → ∃ p : ByteArray, p.data.toList = txB (pfT t i) ∧ ∀ (w : World) (h : Below W.heap.size W w) (c4' : Nat) (B4 : Option Addr) (hr : RdF w B4 (t.ft.take i)), Calls Tryd.prog 8 #[.agg #[.int .i64 t.who, .slice A1 n1 c1, .slice A2 n2 c2, .slice A3 n3 c3, .slice B4 i c4']] w fun e w' => e = .returned (.string p) ∧ Below w.heap.size w w') := Lib.hid fun i hi => by
    obtain ⟨p, pe, pl⟩ := stV_of (txB (pfT t i))
    refine ⟨p, pl, fun w h c4' B4 hr => ?_⟩
    have := K2.out w h i c4' B4 hi hr
    rw [show stV (txO (Rec.mk (pfT t i) A1 A2 A3 B4 n1 n2 n3 i c1 c2 c3 c4').t) = .string p from by show stV (txO (pfT t i)) = _; rw [show txO (pfT t i) = _ from if_pos (pf_may hm i)]; exact pe] at this
    exact this
  have HFl := Lib.hid sFl
  obtain ⟨rW, hrW⟩ := wh_pre (pfT t 0)
  have e1 : sF.data.toList = s0.data.toList ++ (t.ft.drop 0).flatMap ftB := by rw [sFl, s0l]; exact pf_pre t 0
  have e2 : s0.data.toList = sW.data.toList ++ rW := by rw [sWl, s0l]; exact hrW
  have l1 := pre_slice e1
  have l2 := pre_slice e2
  have m1 := (pre_cut e1).2
  have m2 := (pre_cut e2).2
  have z1 : decide ((sF.size : Int) < (s0.size : Int)) = false := decide_eq_false (by omega)
  have z2 : decide ((s0.size : Int) < (sW.size : Int)) = false := decide_eq_false (by omega)
  have zn1 : decide (sF.size < s0.size) = false := decide_eq_false (by omega)
  have zn2 : decide (s0.size < sW.size) = false := decide_eq_false (by omega)
  have z3 := lit_ne (s := sW) (l := []) (by rw [sWl]; exact txB_ne _)
  have HS0 := Lib.hid s0l
  clear hm sFe sWe s0e sFl sWl s0l xF xW x0 K2 e1 e2 hrW
  dsimp only at KM
  go_enter Tryd.func4, Tryd.ntmps4
  go_wp2_with (first | (have HX := S2.out.below; go_at_call 11; refine (KM.out _ HX).mono ?_; clear HX; rintro e w3 ⟨rfl, hb3⟩; have S3 := Lib.hid (S2.out.stay hb3); clear hb3; obtain ⟨p0, p1, p2, p3, p4⟩ := (S3.out.blk 0 rfl).five5) | (have HX := S1.out.below; go_at_call 7; refine (KS.out _).mono ?_; clear HX; rintro e w2 ⟨rfl, hb2⟩; have S2 := Lib.hid (S1.out.stay hb2); clear hb2; obtain ⟨p0, p1, p2, p3, p4⟩ := (S2.out.blk 0 rfl).five5) | (go_at_call 6; refine KA.out.mono ?_; rintro e w1 ⟨rfl, hb1⟩; have S1 := Lib.hid (HB.out.stay hb1); clear hb1; obtain ⟨p0, p1, p2, p3, p4⟩ := (S1.out.blk 0 rfl).five5) | fail)
  refine (K1.out _ S3.out.below).mono ?_
  rintro e w4 ⟨rfl, hb4⟩
  have S4 := Lib.hid (S3.out.stay hb4)
  clear hb4
  obtain ⟨p0, p1, p2, p3, p4⟩ := (S4.out.blk 0 rfl).five5
  obtain ⟨b, hb⟩ : ∃ b, w4.heap.size = b := ⟨_, rfl⟩
  have s5 := S4.out.box 27 #[.int .i64 t.who, .slice A1 n1 c1, .slice A2 n2 c2, .slice A3 n3 c3, .slice none 0 0]
  rw [hb] at s5
  obtain ⟨q0, q1, q2, q3, q4⟩ := (s5.blk 1 rfl).five5
  have S5 := Lib.hid s5
  clear s5
  go_wp2_with fail
  refine (K0.out _ S5.out.below).mono ?_
  rintro e w6 ⟨rfl, hb6⟩
  have S6 := Lib.hid (S5.out.stay hb6)
  clear hb6
  obtain ⟨p0, p1, p2, p3, p4⟩ := (S6.out.blk 0 rfl).five5
  go_wp2_with fail
  refine (K3.out _ S6.out.below).mono ?_
  rintro e w7 ⟨rfl, hb7⟩
  have S7 := Lib.hid ((S6.out.stay hb7).lis_nil 36 3)
  clear hb7
  go_wp2_with fail
  clear l1 l2 z1 z2 z3 zn1 zn2 p0 p1 p2 p3 p4 q0 q1 q2 q3 q4 S1 S2 S3 S4 S5 S6 m1 m2
  go_loopw [5, 7, 8] (fun x5 x7 _ wr => ∃ (i c4' : Nat) (B4 : Option Addr) (p : ByteArray), i ≤ n4 ∧ x7 = .int .i64 (i : Int) ∧ x5 = .string p ∧ p.data.toList = txB (pfT t i) ∧ St W None wr [BlkR a 27 #[.int .i64 t.who, .slice A1 n1 c1, .slice A2 n2 c2, .slice A3 n3 c3, .slice A4 n4 c4], BlkR b 27 #[.int .i64 t.who, .slice A1 n1 c1, .slice A2 n2 c2, .slice A3 n3 c3, .slice B4 i c4'], LisR 36 3 (.slice B4 i c4') i (fCs (t.ft.take i))]) (fun _ x7 _ _ => n4 - (intOf x7).toNat)
  case atStart => exact ⟨0, 0, none, s0, Nat.zero_le _, rfl, rfl, HS0.out, S7.out⟩
  case round =>
  obtain ⟨i, c4', B4, p, hi, rfl, rfl, hp, hst⟩ := hrel
  obtain ⟨p0, p1, p2, p3, p4⟩ := (hst.blk 0 rfl).five5
  obtain ⟨q0, q1, q2, q3, q4⟩ := (hst.blk 1 rfl).five5
  have fb := (hst.blk 1 rfl).frozen 4
  by_cases hlt : i < n4
  rotate_left 1
  · obtain rfl : i = n4 := by omega
    have z1 : decide ((i : Int) < (i : Int)) = false := decide_eq_false (by omega)
    rw [show pfT t i = t by rw [← HN4.out]; exact pf_end t] at hp
    obtain rfl : p = sF := ByteArray.ext (Array.toList_inj.1 (hp.trans HFl.out.symm))
    have HST := Lib.hid hst
    clear hst hp
    go_wp2_with fail
    go_ret
    exact ⟨rfl, HST.out.below⟩
  have z1 : decide ((i : Int) < (n4 : Int)) = true := decide_eq_true (by omega)
  obtain ⟨f, hf⟩ : ∃ f, t.ft[i]? = some f := ⟨t.ft[i]'(by rw [HN4.out]; exact hlt), List.getElem?_eq_getElem _⟩
  obtain ⟨g, off, hA, hg, f1, f2, f3⟩ := HA4.out wr hst.below i f hf
  subst hA
  obtain ⟨r0, hr0⟩ := ft_hd f
  obtain ⟨pn, hpn, KN⟩ := KI.out (i + 1) (by omega)
  have e1 : pn.data.toList = p.data.toList ++ 61 :: r0 := by rw [hpn, hp, pf_one hf, hr0]
  have e2 : sF.data.toList = pn.data.toList ++ (t.ft.drop (i + 1)).flatMap ftB := by rw [HFl.out, hpn]; exact pf_pre t (i + 1)
  have l1 := pre_slice e1
  have l2 := pre_slice e2
  obtain ⟨hl, hx⟩ := pre_next e1
  have m2 := (pre_cut e2).2
  have z2 : decide ((pn.size : Int) ≤ (p.size : Int)) = false := decide_eq_false (by omega)
  have z3 : decide ((sF.size : Int) < (pn.size : Int)) = false := decide_eq_false (by omega)
  have z4 : (((pn[p.size]'hl).toNat : Int) == 61) = true := by rw [hx]; rfl
  have z5 : (((pn[p.size]'hl).toNat : Int) != 61) = false := by rw [hx]; rfl
  have eC : fCs (t.ft.take i) ++ [.int .i64 f.1, .int .i64 f.2.1, .int .i64 f.2.2] = fCs (t.ft.take (i + 1)) := by rw [List.take_add_one, hf]; show _ = fCs (t.ft.take i ++ [f]); rw [fCs_app, fCs_one]
  obtain ⟨y0, y1, y2⟩ := f
  dsimp only at f1 f2 f3 eC
  have c5 := cell_alloc q4 (.cells #[.int .i64 y0, .int .i64 y1, .int .i64 y2] 36)
  have S8 := Lib.hid ((hst.alloc (.cells #[.int .i64 y0, .int .i64 y1, .int .i64 y2] 36)).drew)
  have R3 := Lib.hid (show Rds ((wr.alloc (.cells #[.int .i64 y0, .int .i64 y1, .int .i64 y2] 36)).drew) (some ⟨wr.heap.size, 0, none⟩) 1 3 [.int .i64 y0, .int .i64 y1, .int .i64 y2] from rds_box3 wr 36 _ _ _)
  have EC := Lib.hid eC
  have HPN := Lib.hid hpn
  replace KN := Lib.hid KN
  clear hst hf hp e1 e2 hr0 eC hpn hx
  go_wp2_with fail
  go_region_law (refine step_lis (by rfl) _ _ _ (by rfl) 36 iF (.agg #[.int .i64 0, .int .i64 0, .int .i64 0]) 3 24 Tryd.underlying25 hiF hzF hsF hbF (by rfl) (by omega) (.slice B4 i c4') i (fCs (t.ft.take i)) (by rfl) (S8.out.lis 2 rfl) _ 1 1 [.int .i64 y0, .int .i64 y1, .int .i64 y2] (by rfl) R3.out (by simp [Value.oneCell']) (by unfold maxLen; omega) (by omega) ?_; intro B5 d5 w5 hl5 hg5 hat5; have s9 := S8.out.lis_put 2 rfl hl5 hg5 hat5; have f5 := (s9.blk 1 rfl).frozen 4; have q5 := (s9.blk 1 rfl).five5.2.2.2.2; have S9 := Lib.hid s9; clear s9 hl5 hg5 hat5)
  all_goals
    have s10 := S9.out.set_ 1 rfl 4 (.slice B5 (i + 1) d5)
    rw [EC.out] at s10
    obtain ⟨q0, q1, q2, q3, q4⟩ := (s10.blk 1 rfl).five5
    have S10 := Lib.hid s10
    clear S9 s10
    go_wp2_with fail
    refine (KN.out _ S10.out.below d5 B5 (S10.out.rdf 2 rfl)).mono ?_
    rintro e w11 ⟨rfl, hb11⟩
    have S11 := Lib.hid (S10.out.stay hb11)
    clear hb11
    go_wp2_with fail
    go_roundw
    case rel =>
      first
        | exact ⟨i + 1, d5, B5, pn, by omega, by go_num, rfl, HPN.out, S11.out⟩
        | ((repeat apply Exists.intro); exact ⟨⟨i + 1, d5, B5, pn, by omega, by go_num, rfl, HPN.out, S11.out⟩, rfl⟩)
    case measure => simp [intOf]; omega

theorem door_met (os : Os) (args : Array Value) : laidMetH Tryd.prog Rows.tracePartsRow.laid ((World.doorLaid Tryd.prog 24 os).forCall (fun _ _ => 0) ⟨#[], args, []⟩).memory :=
  laidMetH_of_parts3 (fuel := 8) (laidMet_of_run' 8 (by kernel_rfl) (by kernel_rfl)) (by kernel_rfl) (by kernel_rfl)
set_option maxRecDepth 100000 in
theorem lifted (os : Os) (started : os.Started) (H : Type) (enc : TypeId × Value → H) :
    ReturnsInHanded {} Tryd.checked os 4 .any (fun w args => (Rows.tracePartsSpec.pre enc Tryd.prog Tryd.f4 [] false w args ∧ laidMetH Tryd.prog Rows.tracePartsRow.laid w) ∧ sizedMet enc Tryd.prog Tryd.f4 (OpenSpec.ofChange Rows.tracePartsSpec) false w args) (Rows.tracePartsSpec.post enc Tryd.prog Tryd.f4 false true false false) := by
  refine law_lifted_laid (C := Tryd.checked) (tb := 4) own started (by kernel_rfl) Tryd.func4
    (ChangeSpec.witness_shaped (enc := enc) (C := Tryd.checked) (os := os) (X := fun w _ => laidMetH Tryd.prog Rows.tracePartsRow.laid w) false (World.doorLaid Tryd.prog 24 os) #[.agg #[.int .i64 0, .slice none 0 0, .slice none 0 0, .slice none 0 0, .slice none 0 0]] 8 rfl (World.shaped_of_RefB (by kernel_rfl) (by kernel_rfl)) (by kernel_rfl) (by kernel_rfl) (by kernel_rfl) (door_met os _)) laid (by kernel_rfl) (by kernel_rfl) Tryd.underlying4 rfl ?_
  intro W base args ds ps hval0 hA0 hlt hL
  have hval : ∀ (j : Nat) t v, Tryd.f4.params[j]? = some t → args[j]? = some v → Value.okWide Tryd.prog W .any base t v := hval0
  have hA : DataW.TrodAll enc Tryd.prog W 0 (fun _ => true) true Tryd.f4.params.toList args.toList ds ps := hA0
  clear hA0 hval0
  rw [Tryd.params4] at hA hval
  obtain ⟨v0, vs0, d0, ds0, p0, q0, hargs, rfl, rfl, h0, r0⟩ := trodAll_cons hA
  obtain ⟨rfl, rfl, rfl⟩ := trodAll_nil r0
  obtain rfl : args = #[v0] := by cases args; simp_all
  obtain ⟨cs0, rfl, sz0, lf0⟩ := open_agg_spots (d := 20) (l := [(0, 3), (1, 22), (2, 22), (3, 22), (4, 25)]) (Or.inl ⟨_, Tryd.underlying27⟩) (by kernel_rfl) (hval 0 27 v0 rfl rfl) h0
  obtain ⟨c0_0, c0_1, c0_2, c0_3, c0_4, rfl⟩ := size5 (sz0.trans (by kernel_rfl))
  obtain ⟨a0_0, rfl, w0_0⟩ := leaf_int Tryd.underlying3 (lf0 0 3 (by simp) _ rfl)
  obtain ⟨A0_1, n0_1, cap0_1, V0_1, rfl, le0_1, mx0_1, rd0_1, lf0_1⟩ := leaf_slice (m := 1) (d := 20) (l := [(0, 3)]) Tryd.underlying22 (by kernel_rfl) (by decide) (by kernel_rfl) (lf0 1 22 (by simp) _ rfl)
  have f0_1_0 := fun j hj => leaf_int Tryd.underlying3 (lf0_1 0 3 (by simp) j hj)
  obtain ⟨A0_2, n0_2, cap0_2, V0_2, rfl, le0_2, mx0_2, rd0_2, lf0_2⟩ := leaf_slice (m := 1) (d := 20) (l := [(0, 3)]) Tryd.underlying22 (by kernel_rfl) (by decide) (by kernel_rfl) (lf0 2 22 (by simp) _ rfl)
  have f0_2_0 := fun j hj => leaf_int Tryd.underlying3 (lf0_2 0 3 (by simp) j hj)
  obtain ⟨A0_3, n0_3, cap0_3, V0_3, rfl, le0_3, mx0_3, rd0_3, lf0_3⟩ := leaf_slice (m := 1) (d := 20) (l := [(0, 3)]) Tryd.underlying22 (by kernel_rfl) (by decide) (by kernel_rfl) (lf0 3 22 (by simp) _ rfl)
  have f0_3_0 := fun j hj => leaf_int Tryd.underlying3 (lf0_3 0 3 (by simp) j hj)
  obtain ⟨A0_4, n0_4, cap0_4, V0_4, rfl, le0_4, mx0_4, rd0_4, lf0_4⟩ := leaf_slice (m := 3) (d := 20) (l := [(0, 3), (1, 3), (2, 3)]) Tryd.underlying25 (by kernel_rfl) (by decide) (by kernel_rfl) (lf0 4 25 (by simp) _ rfl)
  have f0_4_0 := fun j hj => leaf_int Tryd.underlying3 (lf0_4 0 3 (by simp) j hj)
  have f0_4_1 := fun j hj => leaf_int Tryd.underlying3 (lf0_4 1 3 (by simp) j hj)
  have f0_4_2 := fun j hj => leaf_int Tryd.underlying3 (lf0_4 2 3 (by simp) j hj)
  refine ⟨⟨rfl, rfl, rfl⟩, ?_⟩
  obtain ⟨X0_1, hX0_1⟩ := Go.Deep.choose_lt (n := n0_1) (p := fun j (z : Int) => V0_1 j 0 = .int .i64 z ∧ (Lit.int .i64 z).wf = true) f0_1_0
  obtain ⟨X0_2, hX0_2⟩ := Go.Deep.choose_lt (n := n0_2) (p := fun j (z : Int) => V0_2 j 0 = .int .i64 z ∧ (Lit.int .i64 z).wf = true) f0_2_0
  obtain ⟨X0_3, hX0_3⟩ := Go.Deep.choose_lt (n := n0_3) (p := fun j (z : Int) => V0_3 j 0 = .int .i64 z ∧ (Lit.int .i64 z).wf = true) f0_3_0
  obtain ⟨Y0_0, hY0_0⟩ := Go.Deep.choose_lt (n := n0_4) (p := fun j (z : Int) => V0_4 j 0 = .int .i64 z ∧ (Lit.int .i64 z).wf = true) f0_4_0
  obtain ⟨Y0_1, hY0_1⟩ := Go.Deep.choose_lt (n := n0_4) (p := fun j (z : Int) => V0_4 j 1 = .int .i64 z ∧ (Lit.int .i64 z).wf = true) f0_4_1
  obtain ⟨Y0_2, hY0_2⟩ := Go.Deep.choose_lt (n := n0_4) (p := fun j (z : Int) => V0_4 j 2 = .int .i64 z ∧ (Lit.int .i64 z).wf = true) f0_4_2
  have R0_1 : RdI W A0_1 ((List.range n0_1).map X0_1) := fun i x hx => by
    rw [List.getElem?_map] at hx
    obtain ⟨j, hj, rfl⟩ := Option.map_eq_some_iff.1 hx
    obtain ⟨hj1, hj2⟩ := List.getElem?_eq_some_iff.1 hj
    rw [List.getElem_range] at hj2
    subst hj2
    rw [List.length_range] at hj1
    obtain ⟨b, off, e, hlt, hc⟩ := rd0_1 (by omega)
    exact ⟨b, off, e, hlt, by
      have := hc i hj1 0 (by omega)
      rw [(hX0_1 i hj1).1] at this
      rw [← this]
      simp⟩
  have R0_2 : RdI W A0_2 ((List.range n0_2).map X0_2) := fun i x hx => by
    rw [List.getElem?_map] at hx
    obtain ⟨j, hj, rfl⟩ := Option.map_eq_some_iff.1 hx
    obtain ⟨hj1, hj2⟩ := List.getElem?_eq_some_iff.1 hj
    rw [List.getElem_range] at hj2
    subst hj2
    rw [List.length_range] at hj1
    obtain ⟨b, off, e, hlt, hc⟩ := rd0_2 (by omega)
    exact ⟨b, off, e, hlt, by
      have := hc i hj1 0 (by omega)
      rw [(hX0_2 i hj1).1] at this
      rw [← this]
      simp⟩
  have R0_3 : RdI W A0_3 ((List.range n0_3).map X0_3) := fun i x hx => by
    rw [List.getElem?_map] at hx
    obtain ⟨j, hj, rfl⟩ := Option.map_eq_some_iff.1 hx
    obtain ⟨hj1, hj2⟩ := List.getElem?_eq_some_iff.1 hj
    rw [List.getElem_range] at hj2
    subst hj2
    rw [List.length_range] at hj1
    obtain ⟨b, off, e, hlt, hc⟩ := rd0_3 (by omega)
    exact ⟨b, off, e, hlt, by
      have := hc i hj1 0 (by omega)
      rw [(hX0_3 i hj1).1] at this
      rw [← this]
      simp⟩
  have R0_4 : RdF W A0_4 ((List.range n0_4).map fun j => (Y0_0 j, Y0_1 j, Y0_2 j)) := fun i x hx => by
    rw [List.getElem?_map] at hx
    obtain ⟨j, hj, rfl⟩ := Option.map_eq_some_iff.1 hx
    obtain ⟨hj1, hj2⟩ := List.getElem?_eq_some_iff.1 hj
    rw [List.getElem_range] at hj2
    subst hj2
    rw [List.length_range] at hj1
    obtain ⟨b, off, e, hlt, hc⟩ := rd0_4 (by omega)
    refine ⟨b, off, e, hlt, ?_, ?_, ?_⟩
    · have := hc i hj1 0 (by omega)
      rw [(hY0_0 i hj1).1] at this
      exact this
    · have := hc i hj1 1 (by omega)
      rw [(hY0_1 i hj1).1] at this
      exact this
    · have := hc i hj1 2 (by omega)
      rw [(hY0_2 i hj1).1] at this
      exact this
  have N0 : TkN ⟨a0_0, (List.range n0_1).map X0_1, (List.range n0_2).map X0_2, (List.range n0_3).map X0_3, (List.range n0_4).map fun j => (Y0_0 j, Y0_1 j, Y0_2 j)⟩ n0_1 n0_2 n0_3 n0_4 := by
    refine ⟨?_, ?_, ?_, ?_⟩ <;> (dsimp only; rw [List.length_map, List.length_range])
  have HWK := walk ⟨a0_0, (List.range n0_1).map X0_1, (List.range n0_2).map X0_2, (List.range n0_3).map X0_3, (List.range n0_4).map fun j => (Y0_0 j, Y0_1 j, Y0_2 j)⟩ A0_1 A0_2 A0_3 A0_4 n0_1 n0_2 n0_3 n0_4 cap0_1 cap0_2 cap0_3 cap0_4 W (tab_ofP hL) N0 R0_1 R0_2 R0_3 R0_4 (bounds_i64 w0_0)
  dsimp only at HWK
  exact HWK

theorem over : Rows.tracePartsRow.holds Tryd.pinned (OpenSpec.ofChange Rows.tracePartsSpec) :=
  OpenClaim.holds_of_wide 4 Tryd.f4 rfl rfl rfl rfl rfl rfl rfl ⟨rfl, rfl, rfl, rfl, rfl⟩ rfl rfl rfl rfl rfl (by kernel_rfl) Tryd.func4 (by kernel_rfl)
    (of_decide_eq_true (by kernel_rfl)) (by unfold Func.isWrapper; first | (rw [if_pos (by decide +kernel)]; kernel_rfl) | (rw [if_neg (by decide +kernel)]; exact ⟨rfl, rfl⟩))
    (fun os started H enc _ => lifted os started H enc)
theorem proved : Rows.TracePartsCardSaid :=
  Claim7.holds_tied_plain_at .later [] Rows.tracePartsCard.laidKinds true Rows.tracePartsCard.stood.harness Rows.tracePartsCard.stood.looks
    over (fun _ h => by cases h) (by kernel_rfl) (fun _ h => by cases h) traceParts_row_tie rfl ⟨rfl, rfl⟩ (by kernel_rfl) rfl
    (fun f fn hf hfn => by
      obtain rfl : f = 4 := Option.some.inj ((show Tryd.prog.funcNamed Rows.tracePartsRow.func = some 4 by kernel_rfl).symm.trans hf) |>.symm
      obtain rfl : fn = Tryd.f4 := (Option.some.inj (Tryd.func4.symm.trans hfn)).symm
      exact ⟨by kernel_rfl, fun j t ht => by
        rw [Tryd.params4] at ht
        have hm : t ∈ [27] := by simpa using Array.mem_of_getElem? ht
        have hall : ([27].all fun u => !Tryd.prog.wantsStandIn u) = true := by kernel_rfl
        exact (show Tryd.prog.wantsStandIn t = false by simpa using List.all_eq_true.1 hall t hm)⟩)
    (by kernel_rfl)
#print axioms proved
end Go.Proofs.YtlceanlenekanaaDoor.traceParts
