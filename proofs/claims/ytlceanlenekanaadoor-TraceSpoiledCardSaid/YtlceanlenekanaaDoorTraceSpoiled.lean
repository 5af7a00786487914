/-
  For every record, place and byte TraceSpoiled answers true, and changes nothing: the text of a record of at most 40 entries a list that may be, with one byte turned, is told by the program as the document does, and is that record's no more, unless the byte was turned by nothing. Condition: the tables that the row lists hold what the program's text lays in them.
-/
import Derived.Test.YtlceanlenekanaaDoorRows
import Derived.Test.YtlceanlenekanaaDoorFr
import Derived.Test.YtlceanlenekanaaDoorFrL
import Derived.Test.YtlceanlenekanaaDoorCards
import Derived.Test.YtlceanlenekanaaDoorTie
import Derived.SevenTiedAt
import Derived.Test.YtlceanlenekanaaDoorTraZ
import Derived.Test.YtlceanlenekanaaDoorOpS
import Derived.Deep.RegionHeld3
import Derived.Lib.ConvBytes
namespace Go.Proofs.YtlceanlenekanaaDoor.traceSpoiled
open Go.ChangeShapes Go.WideShapes Go.ChangeAt Go.RowKit
set_option linter.unusedVariables false
theorem own : ownKnob Tryd.prog.godebug = none := by kernel_rfl
theorem laid : laidOutB Tryd.prog = true := by kernel_rfl
set_option maxHeartbeats 4000000
set_option maxRecDepth 100000
theorem walk (t : Tk) (A1 A2 A3 A4 : Option Addr) (n1 n2 n3 n4 c1 c2 c3 c4 : Nat) (x1 x2 : Int) (W : World) (hT : TabB W.heap.size W) (hN : TkN t n1 n2 n3 n4) (a1 : RdI W A1 t.dn) (a2 : RdI W A2 t.ct) (a3 : RdI W A3 t.ms) (a4 : RdF W A4 t.ft)
    (hw : -9223372036854775808 ≤ t.who ∧ t.who ≤ 9223372036854775807) (hx1 : 0 ≤ x1 ∧ x1 ≤ 65535) (hx2 : 0 ≤ x2 ∧ x2 ≤ 255) :
    Calls Tryd.prog 5 #[.agg #[.int .i64 t.who, .slice A1 n1 c1, .slice A2 n2 c2, .slice A3 n3 c3, .slice A4 n4 c4], .int .u16 x1, .int .u8 x2] W fun e W' => e = .returned (.bool true) ∧ Below W.heap.size W W' := by
  obtain ⟨a, ha⟩ : ∃ a, W.heap.size = a := ⟨_, rfl⟩
  have s0 := (St.begin W).box 27 #[.int .i64 t.who, .slice A1 n1 c1, .slice A2 n2 c2, .slice A3 n3 c3, .slice A4 n4 c4]
  rw [ha] at s0
  have HT := Lib.hid (fun (w' : World) (hb : Below W.heap.size W w') => tab_up (TabB.at_ hT (Nat.le_refl _) hb) hb.size)
  have KA := Lib.hid (awake_c _ (HT.out _ s0.below))
  have HB := Lib.hid s0
  have KS := Lib.hid (fun (w : World) => small25_o t.who A1 A2 A3 A4 n1 n2 n3 n4 c1 c2 c3 c4 w)
  clear s0 hT
  cases hs1 : smallN n1 n2 n3 n4 with
  | false =>
    rw [hs1] at KS
    clear hs1
    go_enter Tryd.func5, Tryd.ntmps5
    go_wp2_with (first | (have HX := S1.out.below; go_at_call 7; refine (KS.out _).mono ?_; clear HX; rintro e w2 ⟨rfl, hb2⟩; have S2 := Lib.hid (S1.out.stay hb2); clear hb2; obtain ⟨p0, p1, p2, p3, p4⟩ := (S2.out.blk 0 rfl).five5) | (go_at_call 6; refine KA.out.mono ?_; rintro e w1 ⟨rfl, hb1⟩; have S1 := Lib.hid (HB.out.stay hb1); clear hb1; obtain ⟨p0, p1, p2, p3, p4⟩ := (S1.out.blk 0 rfl).five5) | fail)
    go_ret
    exact ⟨rfl, S2.out.below⟩
  | true =>
  have hq1 := hs1
  unfold smallN at hq1
  simp only [Bool.and_eq_true, decide_eq_true_eq] at hq1
  obtain ⟨⟨⟨k1, k2⟩, k3⟩, k4⟩ := hq1
  have At : (Rec.mk t A1 A2 A3 A4 n1 n2 n3 n4 c1 c2 c3 c4).At W := ⟨hN.1, hN.2.1, hN.2.2.1, hN.2.2.2, by dsimp only; omega, by dsimp only; omega, by dsimp only; omega, by dsimp only; omega, a1, a2, a3, a4⟩
  rw [hs1] at KS
  have K1 := Lib.hid (fun (w : World) (h : Below W.heap.size W w) => ttext_o _ w (At.on h) hw (HT.out w h))
  have KM := Lib.hid (fun (w : World) (h : Below W.heap.size W w) => rmay25_o _ w (At.on h))
  have HAt := Lib.hid At
  clear hs1 At a1 a2 a3 a4 hw
  cases hm : mayT t with
  | false =>
    unfold Rec.cells at KM
    rw [hm] at KM
    dsimp only at KM
    clear hm
    go_enter Tryd.func5, Tryd.ntmps5
    go_wp2_with (first | (have HX := S2.out.below; go_at_call 11; refine (KM.out _ HX).mono ?_; clear HX; rintro e w3 ⟨rfl, hb3⟩; have S3 := Lib.hid (S2.out.stay hb3); clear hb3; obtain ⟨p0, p1, p2, p3, p4⟩ := (S3.out.blk 0 rfl).five5) | (have HX := S1.out.below; go_at_call 7; refine (KS.out _).mono ?_; clear HX; rintro e w2 ⟨rfl, hb2⟩; have S2 := Lib.hid (S1.out.stay hb2); clear hb2; obtain ⟨p0, p1, p2, p3, p4⟩ := (S2.out.blk 0 rfl).five5) | (go_at_call 6; refine KA.out.mono ?_; rintro e w1 ⟨rfl, hb1⟩; have S1 := Lib.hid (HB.out.stay hb1); clear hb1; obtain ⟨p0, p1, p2, p3, p4⟩ := (S1.out.blk 0 rfl).five5) | fail)
    go_ret
    exact ⟨rfl, S3.out.below⟩
  | true =>
  unfold Rec.cells at KM
  rw [hm] at KM
  have hlen := txO_len hm hN (by omega) (by omega) (by omega) (by omega)
  obtain ⟨s, se, sl⟩ := stV_of (txB t)
  have xF : stV (txO t) = .string s := by rw [show txO t = txB t from if_pos hm]; exact se
  rw [show txO t = txB t from if_pos hm, ← sl, lst_len] at hlen
  replace K1 : RowKit.Hid (∀ (w : World) (h : Below W.heap.size W w), Calls Tryd.prog 8 #[.agg #[.int .i64 t.who, .slice A1 n1 c1, .slice A2 n2 c2, .slice A3 n3 c3, .slice A4 n4 c4]] w fun e w' => e = .returned (.string s) ∧ Below w.heap.size w w') := Lib.hid fun w h => by have := K1.out w h; rw [show stV (txO (Rec.mk t A1 A2 A3 A4 n1 n2 n3 n4 c1 c2 c3 c4).t) = .string s from xF] at this; exact this
  have hpos : 0 < s.size := by
    rw [← lst_len, sl]
    exact List.length_pos_iff.2 (txB_ne t)
  have hz : ((s.size : Int) == 0) = false := beq_eq_false_iff_ne.2 (by omega)
  obtain ⟨i, hi, hil⟩ : ∃ i : Nat, x1 % (s.size : Int) = (i : Int) ∧ i < s.size := ⟨(x1 % (s.size : Int)).toNat, by have := Int.emod_nonneg x1 (b := (s.size : Int)) (by omega); omega, by have := Int.emod_lt_of_pos x1 (b := (s.size : Int)) (by omega); have := Int.emod_nonneg x1 (b := (s.size : Int)) (by omega); omega⟩
  have HSL := Lib.hid sl
  have HM := Lib.hid hm
  clear hm se sl xF
  dsimp only at KM
  go_enter Tryd.func5, Tryd.ntmps5
  go_wp2_with (first | (have HX := S2.out.below; go_at_call 11; refine (KM.out _ HX).mono ?_; clear HX; rintro e w3 ⟨rfl, hb3⟩; have S3 := Lib.hid (S2.out.stay hb3); clear hb3; obtain ⟨p0, p1, p2, p3, p4⟩ := (S3.out.blk 0 rfl).five5) | (have HX := S1.out.below; go_at_call 7; refine (KS.out _).mono ?_; clear HX; rintro e w2 ⟨rfl, hb2⟩; have S2 := Lib.hid (S1.out.stay hb2); clear hb2; obtain ⟨p0, p1, p2, p3, p4⟩ := (S2.out.blk 0 rfl).five5) | (go_at_call 6; refine KA.out.mono ?_; rintro e w1 ⟨rfl, hb1⟩; have S1 := Lib.hid (HB.out.stay hb1); clear hb1; obtain ⟨p0, p1, p2, p3, p4⟩ := (S1.out.blk 0 rfl).five5) | fail)
  refine (K1.out _ S3.out.below).mono ?_
  rintro e w4 ⟨rfl, hb4⟩
  have S4 := Lib.hid (S3.out.stay hb4)
  clear hb4
  obtain ⟨g, hg⟩ : ∃ g, w4.heap.size = g := ⟨_, rfl⟩
  obtain ⟨wb, cp, hcv, hbb, hcell, hfz, hsz⟩ := conv_in (P := Tryd.prog) w4 9 38 5 s Tryd.underlying9 Tryd.underlying38 Tryd.underlying5
  have b4 := S4.out.below
  have hWg : W.heap.size ≤ g := by rw [← hg]; exact b4.size
  have hag : a < g := by rw [← hg]; exact (S4.out.blk 0 rfl).lt
  obtain ⟨p0, p1, p2, p3, p4⟩ := (S4.out.blk 0 rfl).five5
  rw [hg] at hcv hcell hfz hbb hsz
  have hbW : Below W.heap.size W wb := b4.trans (hbb.mono hWg)
  have ci := hcell i hil
  have fi := hfz i hil
  obtain ⟨c, hc⟩ : ∃ c, s[i]'hil = c := ⟨_, rfl⟩
  rw [hc] at ci
  obtain ⟨z, hz8, hxor, hzz⟩ := xor_byte c hx2
  have hsp := spoil_same s hil hz8
  rw [hc, HSL.out] at hsp
  obtain ⟨v, hv⟩ : ∃ v, spoilB s i z = v := ⟨_, rfl⟩
  have hvl : v.length = s.size := by rw [← hv]; unfold spoilB; rw [List.length_set, lst_len]
  have hvc : ∀ j b, v[j]? = some b → (wb.setCell ⟨g, i, none⟩ (.int .u8 ((z : Nat) : Int))).cell? ⟨g, j, none⟩ = some (.int .u8 (b.toNat : Nat)) := fun j b hb => by
    have hj : j < s.size := by rw [← hvl]; exact (List.getElem?_eq_some_iff.1 hb).1
    rw [← hv] at hb
    unfold spoilB at hb
    by_cases hji : j = i
    · subst hji
      rw [List.getElem?_set_self (by rw [lst_len]; exact hj)] at hb
      injection hb with hb
      rw [World.cell?_setCell_same' wb ⟨g, j, none⟩ _ (by rw [hcell j hj]; rfl), ← hb, UInt8.toNat_ofNat', Nat.mod_eq_of_lt (by simpa using hz8)]
    · rw [List.getElem?_set_ne (by omega)] at hb
      rw [World.cell?_setCell_other (w := wb) (a := ⟨g, i, none⟩) (b := ⟨g, j, none⟩) (h := fun h => hji (by injection h with h1 h2; exact h2.symm)), hcell j hj]
      have : s.data.toList[j]? = some (s[j]'hj) := by
        rw [List.getElem?_eq_getElem (by rw [lst_len]; exact hj)]
        congr 1
      rw [this] at hb
      injection hb with hb
      rw [hb]
  obtain ⟨w5, hw5⟩ : ∃ w5, wb.setCell ⟨g, i, none⟩ (.int .u8 ((z : Nat) : Int)) = w5 := ⟨_, rfl⟩
  have b5 : Below W.heap.size W w5 := by rw [← hw5]; exact hbW.setCell (p := ⟨g, i, none⟩) hWg _
  have s5 : w5.heap.size = g + 1 := by rw [← hw5, ← hsz]; simp [World.setCell]
  have hP5 : ∀ k x, w4.cell? ⟨a, k, none⟩ = some x → w5.cell? ⟨a, k, none⟩ = some x := fun k x h => by
    rw [← hw5, World.cell?_setCell_other (w := wb) (a := ⟨g, i, none⟩) (b := ⟨a, k, none⟩) (h := fun h => by injection h with h1 h2; omega), hbb.cell (p := ⟨a, k, none⟩) hag]
    exact h
  rw [hw5] at hvc
  have HV := Lib.hid (fun (w : World) (h : Below w5.heap.size w5 w) => by
    have := conv_out (P := Tryd.prog) w 38 5 9 Tryd.underlying38 Tryd.underlying5 Tryd.underlying9 g cp v (fun j b hb => by rw [h.cell (p := ⟨g, j, none⟩) (by show g < _; omega)]; exact hvc j b hb)
    rw [hvl] at this
    exact this)
  have HP5 := Lib.hid (fun (w : World) (h : Below w5.heap.size w5 w) => (show w.cell? ⟨a, 0, none⟩ = some (.int .i64 t.who) ∧ w.cell? ⟨a, 1, none⟩ = some (.slice A1 n1 c1) ∧ w.cell? ⟨a, 2, none⟩ = some (.slice A2 n2 c2) ∧ w.cell? ⟨a, 3, none⟩ = some (.slice A3 n3 c3) ∧ w.cell? ⟨a, 4, none⟩ = some (.slice A4 n4 c4) from by
    have hh : ∀ k, w.cell? ⟨a, k, none⟩ = w5.cell? ⟨a, k, none⟩ := fun k => h.cell (p := ⟨a, k, none⟩) (by show a < _; omega)
    rw [hh, hh, hh, hh, hh]
    exact ⟨hP5 _ _ p0, hP5 _ _ p1, hP5 _ _ p2, hP5 _ _ p3, hP5 _ _ p4⟩))
  have HB5 := Lib.hid b5
  have hcv5 := HV.out w5 (Below.refl _ _)
  have KP := parse25_r v w5 (by omega) (HT.out w5 b5)
  have KR := Lib.hid (fun (w : World) => rparse25_r v w (by omega))
  have hWb := hw5
  have hpr : prB v = none ∧ x2 ≠ 0 ∨ ∃ q, prB v = some q ∧ (q = t ↔ x2 = 0) := by
    cases e : prB v with
    | none =>
      refine Or.inl ⟨rfl, fun h0 => ?_⟩
      have : v = txB t := by rw [← hv]; exact hsp.2 (hzz.2 h0)
      rw [this, (prB_iff (txB t) t).2 ⟨HM.out, rfl⟩] at e
      cases e
    | some q =>
      refine Or.inr ⟨q, rfl, ?_⟩
      obtain ⟨m1, m2⟩ := (prB_iff v q).1 e
      constructor
      · intro hq
        refine hzz.1 (hsp.1 ?_)
        rw [hv, ← m2, hq]
      · intro h0
        have : v = txB t := by rw [← hv]; exact hsp.2 (hzz.2 h0)
        exact txB_inj m1 HM.out (m2.trans this)
  replace KP := Lib.hid KP
  clear hcell hfz hsp hvc hv hP5 b5 b4 hbb hbW hvl HSL hg hc hzz hw5 hpos KA KS KM K1 HB S1 S2 S3 S4
  go_wp2_with fail
  refine KP.out.mono ?_
  rintro e w6 ⟨B1, B2, B3, B4, m1, m2, m3, m4, d1, d2, d3, d4, rfl, hb6, hat6⟩
  obtain ⟨x, hx⟩ : ∃ x, rcB (prB v) = x := ⟨_, rfl⟩
  obtain ⟨cd, hcd⟩ : ∃ cd, cdB (prB v) = cd := ⟨_, rfl⟩
  rw [hx] at hat6 KR
  rw [hcd] at KR
  have s7 := (St.begin w6).box 27 #[.int .i64 x.who, .slice B1 m1 d1, .slice B2 m2 d2, .slice B3 m3 d3, .slice B4 m4 d4]
  obtain ⟨y, hy⟩ : ∃ y, w6.heap.size = y := ⟨_, rfl⟩
  have bx7 : Below w5.heap.size w5 (w6.alloc (.cells #[.int .i64 x.who, .slice B1 m1 d1, .slice B2 m2 d2, .slice B3 m3 d3, .slice B4 m4 d4] 27)) := hb6.trans (s7.below.mono hb6.size)
  have hcv7 := HV.out _ bx7
  rw [hy] at s7
  have HX := Lib.hid (And.intro hx hcd)
  have S7 := Lib.hid s7
  have AT := Lib.hid hat6
  have B6 := Lib.hid hb6
  clear hat6 s7 hx hcd hb6 bx7
  rw [HX.out.1, HX.out.2]
  go_wp2_with fail
  refine (KR.out _).mono ?_
  rintro e w8 ⟨E1, E2, E3, E4, l1, l2, l3, l4, f1, f2, f3, f4, rfl, hb8, hat8⟩
  have s8 := S7.out.stay hb8
  obtain ⟨yy, hyy⟩ : ∃ yy, w8.heap.size = yy := ⟨_, rfl⟩
  have s9 := s8.box 27 #[.int .i64 x.who, .slice E1 l1 f1, .slice E2 l2 f2, .slice E3 l3 f3, .slice E4 l4 f4]
  have k9 : Below w8.heap.size w8 (w8.alloc (.cells #[.int .i64 x.who, .slice E1 l1 f1, .slice E2 l2 f2, .slice E3 l3 f3, .slice E4 l4 f4] 27)) := (Below.refl _ _).alloc (Nat.le_refl _) _
  rw [hyy] at s9
  have KS1 := same25_o x x B1 B2 B3 B4 E1 E2 E3 E4 m1 m2 m3 m4 d1 d2 d3 d4 l1 l2 l3 l4 f1 f2 f3 f4 (w8.alloc (.cells #[.int .i64 x.who, .slice E1 l1 f1, .slice E2 l2 f2, .slice E3 l3 f3, .slice E4 l4 f4] 27)) (AT.out.on s9.below) (hat8.on k9)
  rw [(sameT_iff x x).2 rfl] at KS1
  replace KS1 := Lib.hid KS1
  have KS2 := Lib.hid (fun (w : World) (h : Below w6.heap.size w6 w) => same25_o x t B1 B2 B3 B4 A1 A2 A3 A4 m1 m2 m3 m4 d1 d2 d3 d4 n1 n2 n3 n4 c1 c2 c3 c4 w (AT.out.on h) (HAt.out.on (HB5.out.trans ((B6.out.trans (h.mono B6.out.size)).mono HB5.out.size))))
  have HB9 := Lib.hid (fun (w : World) (h : Below w6.heap.size w6 w) => B6.out.trans (h.mono B6.out.size))
  obtain ⟨p0, p1, p2, p3, p4⟩ := HP5.out _ (HB9.out _ s9.below)
  obtain ⟨g0, g1, g2, g3, g4⟩ := (s9.blk 0 rfl).five5
  obtain ⟨r0, r1, r2, r3, r4⟩ := (s9.blk 1 rfl).five5
  have S9 := Lib.hid s9
  have ways : (cd = 9 ∧ (x2 == 0) = false) ∨ (cd = 0 ∧ ∃ bb, sameT x t = bb ∧ (x2 == 0) = bb) := by
    rcases hpr with ⟨h1, h2⟩ | ⟨q, h1, h2⟩
    · exact Or.inl ⟨by rw [← HX.out.2, h1]; rfl, beq_eq_false_iff_ne.2 h2⟩
    · refine Or.inr ⟨by rw [← HX.out.2, h1]; rfl, sameT x t, rfl, ?_⟩
      have hxq : x = q := by rw [← HX.out.1, h1]; rfl
      cases e : sameT x t with
      | true => exact beq_iff_eq.2 (h2.1 (hxq ▸ (sameT_iff x t).1 e))
      | false =>
        refine beq_eq_false_iff_ne.2 fun h => ?_
        have := (sameT_iff x t).2 (hxq.trans (h2.2 h))
        rw [e] at this; cases this
  clear s8 s9 hat8 hb8 k9 hpr S7 KR KP hcv hcv5 hcv7 ci fi hxor hWb
  rcases ways with ⟨rfl, zz⟩ | ⟨rfl, bb, hbb, zz⟩
  · go_wp2_with (first | (go_at_call 13; refine KS1.out.mono ?_; rintro e w10 ⟨rfl, hb10⟩; have S10 := Lib.hid (S9.out.stay hb10); clear hb10) | fail)
    go_ret
    exact ⟨rfl, HB5.out.trans ((HB9.out _ S10.out.below).mono HB5.out.size)⟩
  · rw [hbb] at KS2
    cases bb <;> (
      go_wp2_with (first | (have HX9 := S10.out.below; go_at_call 13; refine (KS2.out _ HX9).mono ?_; clear HX9; rintro e w11 ⟨rfl, hb11⟩; have S11 := Lib.hid (S10.out.stay hb11); clear hb11) | (go_at_call 13; refine KS1.out.mono ?_; rintro e w10 ⟨rfl, hb10⟩; have S10 := Lib.hid (S9.out.stay hb10); clear hb10; obtain ⟨g0, g1, g2, g3, g4⟩ := (S10.out.blk 0 rfl).five5; obtain ⟨p0, p1, p2, p3, p4⟩ := HP5.out _ (HB9.out _ S10.out.below)) | fail)
      go_ret
      exact ⟨rfl, HB5.out.trans ((HB9.out _ S11.out.below).mono HB5.out.size)⟩)

theorem door_met (os : Os) (args : Array Value) : laidMetH Tryd.prog Rows.traceSpoiledRow.laid ((World.doorLaid Tryd.prog 24 os).forCall (fun _ _ => 0) ⟨#[], args, []⟩).memory :=
  laidMetH_of_parts3 (fuel := 8) (laidMet_of_run' 8 (by kernel_rfl) (by kernel_rfl)) (by kernel_rfl) (by kernel_rfl)
set_option maxRecDepth 100000 in
theorem lifted (os : Os) (started : os.Started) (H : Type) (enc : TypeId × Value → H) :
    ReturnsInHanded {} Tryd.checked os 5 .any (fun w args => (Rows.traceSpoiledSpec.pre enc Tryd.prog Tryd.f5 [] false w args ∧ laidMetH Tryd.prog Rows.traceSpoiledRow.laid w) ∧ sizedMet enc Tryd.prog Tryd.f5 (OpenSpec.ofChange Rows.traceSpoiledSpec) false w args) (Rows.traceSpoiledSpec.post enc Tryd.prog Tryd.f5 false true false false) := by
  refine law_lifted_laid (C := Tryd.checked) (tb := 4) own started (by kernel_rfl) Tryd.func5
    (ChangeSpec.witness_shaped (enc := enc) (C := Tryd.checked) (os := os) (X := fun w _ => laidMetH Tryd.prog Rows.traceSpoiledRow.laid w) false (World.doorLaid Tryd.prog 24 os) #[.agg #[.int .i64 0, .slice none 0 0, .slice none 0 0, .slice none 0 0, .slice none 0 0], .int .u16 0, .int .u8 0] 8 rfl (World.shaped_of_RefB (by kernel_rfl) (by kernel_rfl)) (by kernel_rfl) (by kernel_rfl) (by kernel_rfl) (door_met os _)) laid (by kernel_rfl) (by kernel_rfl) Tryd.underlying4 rfl ?_
  intro W base args ds ps hval0 hA0 hlt hL
  have hval : ∀ (j : Nat) t v, Tryd.f5.params[j]? = some t → args[j]? = some v → Value.okWide Tryd.prog W .any base t v := hval0
  have hA : DataW.TrodAll enc Tryd.prog W 0 (fun _ => true) true Tryd.f5.params.toList args.toList ds ps := hA0
  clear hA0 hval0
  rw [Tryd.params5] at hA hval
  obtain ⟨v0, vs0, d0, ds0, p0, q0, hargs, rfl, rfl, h0, r0⟩ := trodAll_cons hA
  obtain ⟨v1, vs1, d1, ds1, p1, q1, rfl, rfl, rfl, h1, r1⟩ := trodAll_cons r0
  obtain ⟨v2, vs2, d2, ds2, p2, q2, rfl, rfl, rfl, h2, r2⟩ := trodAll_cons r1
  obtain ⟨rfl, rfl, rfl⟩ := trodAll_nil r2
  obtain rfl : args = #[v0, v1, v2] := by cases args; simp_all
  obtain ⟨cs0, rfl, sz0, lf0⟩ := open_agg_spots (d := 20) (l := [(0, 3), (1, 22), (2, 22), (3, 22), (4, 25)]) (Or.inl ⟨_, Tryd.underlying27⟩) (by kernel_rfl) (hval 0 27 v0 rfl rfl) h0
  obtain ⟨c0_0, c0_1, c0_2, c0_3, c0_4, rfl⟩ := size5 (sz0.trans (by kernel_rfl))
  obtain ⟨a0_0, rfl, w0_0⟩ := leaf_int Tryd.underlying3 (lf0 0 3 (by simp) _ rfl)
  obtain ⟨A0_1, n0_1, cap0_1, V0_1, rfl, le0_1, mx0_1, rd0_1, lf0_1⟩ := leaf_slice (m := 1) (d := 20) (l := [(0, 3)]) Tryd.underlying22 (by kernel_rfl) (by decide) (by kernel_rfl) (lf0 1 22 (by simp) _ rfl)
  have f0_1_0 := fun j hj => leaf_int Tryd.underlying3 (lf0_1 0 3 (by simp) j hj)
  obtain ⟨A0_2, n0_2, cap0_2, V0_2, rfl, le0_2, mx0_2, rd0_2, lf0_2⟩ := leaf_slice (m := 1) (d := 20) (l := [(0, 3)]) Tryd.underlying22 (by kernel_rfl) (by decide) (by kernel_rfl) (lf0 2 22 (by simp) _ rfl)
  have f0_2_0 := fun j hj => leaf_int Tryd.underlying3 (lf0_2 0 3 (by simp) j hj)
  obtain ⟨A0_3, n0_3, cap0_3, V0_3, rfl, le0_3, mx0_3, rd0_3, lf0_3⟩ := leaf_slice (m := 1) (d := 20) (l := [(0, 3)]) Tryd.underlying22 (by kernel_rfl) (by decide) (by kernel_rfl) (lf0 3 22 (by simp) _ rfl)
  have f0_3_0 := fun j hj => leaf_int Tryd.underlying3 (lf0_3 0 3 (by simp) j hj)
  obtain ⟨A0_4, n0_4, cap0_4, V0_4, rfl, le0_4, mx0_4, rd0_4, lf0_4⟩ := leaf_slice (m := 3) (d := 20) (l := [(0, 3), (1, 3), (2, 3)]) Tryd.underlying25 (by kernel_rfl) (by decide) (by kernel_rfl) (lf0 4 25 (by simp) _ rfl)
  have f0_4_0 := fun j hj => leaf_int Tryd.underlying3 (lf0_4 0 3 (by simp) j hj)
  have f0_4_1 := fun j hj => leaf_int Tryd.underlying3 (lf0_4 1 3 (by simp) j hj)
  have f0_4_2 := fun j hj => leaf_int Tryd.underlying3 (lf0_4 2 3 (by simp) j hj)
  obtain ⟨a1, rfl, rfl, rfl, w1⟩ := open_int Tryd.underlying37 (hval 1 37 v1 rfl rfl) h1
  obtain ⟨a2, rfl, rfl, rfl, w2⟩ := open_int Tryd.underlying5 (hval 2 5 v2 rfl rfl) h2
  refine ⟨⟨rfl, rfl, rfl⟩, ?_⟩
  obtain ⟨X0_1, hX0_1⟩ := Go.Deep.choose_lt (n := n0_1) (p := fun j (z : Int) => V0_1 j 0 = .int .i64 z ∧ (Lit.int .i64 z).wf = true) f0_1_0
  obtain ⟨X0_2, hX0_2⟩ := Go.Deep.choose_lt (n := n0_2) (p := fun j (z : Int) => V0_2 j 0 = .int .i64 z ∧ (Lit.int .i64 z).wf = true) f0_2_0
  obtain ⟨X0_3, hX0_3⟩ := Go.Deep.choose_lt (n := n0_3) (p := fun j (z : Int) => V0_3 j 0 = .int .i64 z ∧ (Lit.int .i64 z).wf = true) f0_3_0
  obtain ⟨Y0_0, hY0_0⟩ := Go.Deep.choose_lt (n := n0_4) (p := fun j (z : Int) => V0_4 j 0 = .int .i64 z ∧ (Lit.int .i64 z).wf = true) f0_4_0
  obtain ⟨Y0_1, hY0_1⟩ := Go.Deep.choose_lt (n := n0_4) (p := fun j (z : Int) => V0_4 j 1 = .int .i64 z ∧ (Lit.int .i64 z).wf = true) f0_4_1
  obtain ⟨Y0_2, hY0_2⟩ := Go.Deep.choose_lt (n := n0_4) (p := fun j (z : Int) => V0_4 j 2 = .int .i64 z ∧ (Lit.int .i64 z).wf = true) f0_4_2
  have R0_1 : RdI W A0_1 ((List.range n0_1).map X0_1) := fun i x hx => by
    rw [List.getElem?_map] at hx
    obtain ⟨j, hj, rfl⟩ := Option.map_eq_some_iff.1 hx
    obtain ⟨hj1, hj2⟩ := List.getElem?_eq_some_iff.1 hj
    rw [List.getElem_range] at hj2
    subst hj2
    rw [List.length_range] at hj1
    obtain ⟨b, off, e, hlt, hc⟩ := rd0_1 (by omega)
    exact ⟨b, off, e, hlt, by
      have := hc i hj1 0 (by omega)
      rw [(hX0_1 i hj1).1] at this
      rw [← this]
      simp⟩
  have R0_2 : RdI W A0_2 ((List.range n0_2).map X0_2) := fun i x hx => by
    rw [List.getElem?_map] at hx
    obtain ⟨j, hj, rfl⟩ := Option.map_eq_some_iff.1 hx
    obtain ⟨hj1, hj2⟩ := List.getElem?_eq_some_iff.1 hj
    rw [List.getElem_range] at hj2
    subst hj2
    rw [List.length_range] at hj1
    obtain ⟨b, off, e, hlt, hc⟩ := rd0_2 (by omega)
    exact ⟨b, off, e, hlt, by
      have := hc i hj1 0 (by omega)
      rw [(hX0_2 i hj1).1] at this
      rw [← this]
      simp⟩
  have R0_3 : RdI W A0_3 ((List.range n0_3).map X0_3) := fun i x hx => by
    rw [List.getElem?_map] at hx
    obtain ⟨j, hj, rfl⟩ := Option.map_eq_some_iff.1 hx
    obtain ⟨hj1, hj2⟩ := List.getElem?_eq_some_iff.1 hj
    rw [List.getElem_range] at hj2
    subst hj2
    rw [List.length_range] at hj1
    obtain ⟨b, off, e, hlt, hc⟩ := rd0_3 (by omega)
    exact ⟨b, off, e, hlt, by
      have := hc i hj1 0 (by omega)
      rw [(hX0_3 i hj1).1] at this
      rw [← this]
      simp⟩
  have R0_4 : RdF W A0_4 ((List.range n0_4).map fun j => (Y0_0 j, Y0_1 j, Y0_2 j)) := fun i x hx => by
    rw [List.getElem?_map] at hx
    obtain ⟨j, hj, rfl⟩ := Option.map_eq_some_iff.1 hx
    obtain ⟨hj1, hj2⟩ := List.getElem?_eq_some_iff.1 hj
    rw [List.getElem_range] at hj2
    subst hj2
    rw [List.length_range] at hj1
    obtain ⟨b, off, e, hlt, hc⟩ := rd0_4 (by omega)
    refine ⟨b, off, e, hlt, ?_, ?_, ?_⟩
    · have := hc i hj1 0 (by omega)
      rw [(hY0_0 i hj1).1] at this
      exact this
    · have := hc i hj1 1 (by omega)
      rw [(hY0_1 i hj1).1] at this
      exact this
    · have := hc i hj1 2 (by omega)
      rw [(hY0_2 i hj1).1] at this
      exact this
  have N0 : TkN ⟨a0_0, (List.range n0_1).map X0_1, (List.range n0_2).map X0_2, (List.range n0_3).map X0_3, (List.range n0_4).map fun j => (Y0_0 j, Y0_1 j, Y0_2 j)⟩ n0_1 n0_2 n0_3 n0_4 := by
    refine ⟨?_, ?_, ?_, ?_⟩ <;> (dsimp only; rw [List.length_map, List.length_range])
  have HWK := walk ⟨a0_0, (List.range n0_1).map X0_1, (List.range n0_2).map X0_2, (List.range n0_3).map X0_3, (List.range n0_4).map fun j => (Y0_0 j, Y0_1 j, Y0_2 j)⟩ A0_1 A0_2 A0_3 A0_4 n0_1 n0_2 n0_3 n0_4 cap0_1 cap0_2 cap0_3 cap0_4 a1 a2 W (tab_ofS hL) N0 R0_1 R0_2 R0_3 R0_4 (bounds_i64 w0_0) (bounds_u16 w1) (bounds_u8 w2)
  dsimp only at HWK
  exact HWK

theorem over : Rows.traceSpoiledRow.holds Tryd.pinned (OpenSpec.ofChange Rows.traceSpoiledSpec) :=
  OpenClaim.holds_of_wide 5 Tryd.f5 rfl rfl rfl rfl rfl rfl rfl ⟨rfl, rfl, rfl, rfl, rfl⟩ rfl rfl rfl rfl rfl (by kernel_rfl) Tryd.func5 (by kernel_rfl)
    (of_decide_eq_true (by kernel_rfl)) (by unfold Func.isWrapper; first | (rw [if_pos (by decide +kernel)]; kernel_rfl) | (rw [if_neg (by decide +kernel)]; exact ⟨rfl, rfl⟩))
    (fun os started H enc _ => lifted os started H enc)
theorem proved : Rows.TraceSpoiledCardSaid :=
  Claim7.holds_tied_plain_at .later [] Rows.traceSpoiledCard.laidKinds true Rows.traceSpoiledCard.stood.harness Rows.traceSpoiledCard.stood.looks
    over (fun _ h => by cases h) (by kernel_rfl) (fun _ h => by cases h) traceSpoiled_row_tie rfl ⟨rfl, rfl⟩ (by kernel_rfl) rfl
    (fun f fn hf hfn => by
      obtain rfl : f = 5 := Option.some.inj ((show Tryd.prog.funcNamed Rows.traceSpoiledRow.func = some 5 by kernel_rfl).symm.trans hf) |>.symm
      obtain rfl : fn = Tryd.f5 := (Option.some.inj (Tryd.func5.symm.trans hfn)).symm
      exact ⟨by kernel_rfl, fun j t ht => by
        rw [Tryd.params5] at ht
        have hm : t ∈ [27, 37, 5] := by simpa using Array.mem_of_getElem? ht
        have hall : ([27, 37, 5].all fun u => !Tryd.prog.wantsStandIn u) = true := by kernel_rfl
        exact (show Tryd.prog.wantsStandIn t = false by simpa using List.all_eq_true.1 hall t hm)⟩)
    (by kernel_rfl)
#print axioms proved
end Go.Proofs.YtlceanlenekanaaDoor.traceSpoiled
