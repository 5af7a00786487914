/- Layer 25: the answers that the document fixes; the table that the row lists. -/
import Derived.Test.YtlceanlenekanaaDoorTraS
import Derived.Test.YtlceanlenekanaaDoorFrL
namespace Go.Proofs.YtlceanlenekanaaDoor
open Go.RowKit
set_option linter.unusedVariables false
set_option maxRecDepth 100000
set_option maxHeartbeats 4000000
theorem tab_of {W : World} (h : laidMetH Tryd.prog Rows.traceTellsRow.laid W) : TabB W.heap.size W := by
  rw [MakeChecks.laidMetH_plain _ _ _ (by kernel_rfl)] at h
  have h2 := laidMet.tail (laidMet.tail h)
  refine Lib.tabBelow_of_tabIs ?_
  exact Lib.tabIs_of_head (g := 0) (t := 96) (e := 88) (n := 20) (by kernel_rfl) (by kernel_rfl) Tryd.underlying96 Tryd.underlying88 (by kernel_rfl) (by kernel_rfl) h2
theorem parse25_some {u : List UInt8} {t : Tk} {n1 n2 n3 n4 : Nat} (hu : u.length ≤ 100000) (h : prB u = some t) (hN : TkN t n1 n2 n3 n4) (w : World) (hT : TabB w.heap.size w) :
    Calls Tryd.prog 12 #[.string ⟨u.toArray⟩] w fun e w' => ∃ B1 B2 B3 B4 c1 c2 c3 c4, e = .returned (.tuple #[.agg #[.int .i64 t.who, .slice B1 n1 c1, .slice B2 n2 c2, .slice B3 n3 c3, .slice B4 n4 c4], .int .i64 0]) ∧ St w None w' (TkM t B1 B2 B3 B4 n1 n2 n3 n4 c1 c2 c3 c4) := by
  refine (parse25_o u w hu hT).mono ?_
  rintro e w' (⟨h', _⟩ | ⟨t', B1, B2, B3, B4, m1, m2, m3, m4, c1, c2, c3, c4, h', hN', _, rfl, hs⟩)
  · rw [h] at h'; cases h'
  · rw [h] at h'
    injection h' with h'
    subst h'
    obtain ⟨rfl, rfl, rfl, rfl⟩ := hN
    obtain ⟨rfl, rfl, rfl, rfl⟩ := hN'
    exact ⟨B1, B2, B3, B4, c1, c2, c3, c4, rfl, hs⟩
theorem parse25_none {u : List UInt8} (hu : u.length ≤ 100000) (h : prB u = none) (w : World) (hT : TabB w.heap.size w) :
    Calls Tryd.prog 12 #[.string ⟨u.toArray⟩] w fun e w' => e = .returned (.tuple #[.agg #[.int .i64 0, .slice none 0 0, .slice none 0 0, .slice none 0 0, .slice none 0 0], .int .i64 9]) ∧ Below w.heap.size w w' := by
  refine (parse25_o u w hu hT).mono ?_
  rintro e w' (⟨_, rfl, hs⟩ | ⟨t', B1, B2, B3, B4, m1, m2, m3, m4, c1, c2, c3, c4, h', _⟩)
  · exact ⟨rfl, hs.below⟩
  · rw [h] at h'; cases h'
def awT : Tk := ⟨0, [0], [], [], [(7, 1, 5)]⟩
theorem aw1 : txB awT = [116, 48, 43, 48, 61, 55, 100, 53] := by
  unfold txB whoB eachB ftB mkB awT
  simp only [List.flatMap_cons, List.flatMap_nil]
  rw [if_neg (by decide), if_pos (by decide), show ((0 : Int)).toNat = 0 from rfl, show ((7 : Int)).toNat = 7 from rfl, show ((5 : Int)).toNat = 5 from rfl, digs_small (by decide), digs_small (by decide), digs_small (by decide)]
  decide
theorem aw_m : mayT awT = true := by decide
theorem aw_p : prB [116, 48, 43, 48, 61, 55, 100, 53] = some awT := (prB_iff _ _).2 ⟨aw_m, aw1⟩
theorem aw_x : txO awT = [116, 48, 43, 48, 61, 55, 100, 53] := (if_pos aw_m).trans aw1
theorem aw_q : prB [116, 48, 48] = none := by
  unfold prB
  rw [show spB [116, 48, 48] = none from rfl]
  rfl
theorem aw_d : prB [46] = some tk0 := (prB_iff _ _).2 ⟨by decide, by decide⟩
theorem aw_s : prB [115, 49] = some { tk0 with who := 101 } := (prB_iff _ _).2 ⟨by decide, by
  unfold txB whoB eachB mkB tk0
  simp only [List.flatMap_nil]
  rw [if_pos (by decide), show ((101 : Int) - 100).toNat = 1 from rfl, digs_small (by decide)]
  decide⟩
theorem aw_w : wordsB [46, 32, 115, 49] = [[46], [115, 49]] := by decide
theorem awake_c (w : World) (hT : TabB w.heap.size w) : Calls Tryd.prog 6 #[] w fun e w' => e = .returned (.bool true) ∧ Below w.heap.size w w' := by
  have HT := Lib.hid (fun (w' : World) (hb : Below w.heap.size w w') => tab_up (TabB.at_ hT (Nat.le_refl _) hb) hb.size)
  clear hT
  have K1 := Lib.hid (fun (w' : World) (hb : Below w.heap.size w w') => parse25_some (u := [116, 48, 43, 48, 61, 55, 100, 53]) (t := awT) (n1 := 1) (n2 := 0) (n3 := 0) (n4 := 1) (by decide) aw_p ⟨rfl, rfl, rfl, rfl⟩ w' (HT.out w' hb))
  have K2 := Lib.hid (fun (w' : World) (hb : Below w.heap.size w w') => parse25_none (u := [116, 48, 48]) (by decide) aw_q w' (HT.out w' hb))
  have K3 := Lib.hid (fun (w' : World) (hb : Below w.heap.size w w') => all_o ⟨#[46, 32, 115, 49]⟩ w' (by decide) (HT.out w' hb) (us := [[46], [115, 49]]) aw_w [tk0, { tk0 with who := 101 }] rfl (fun i u hu => by
    match i, hu with
    | 0, hu => injection hu with hu; subst hu; exact ⟨by decide, _, rfl, aw_d⟩
    | 1, hu => injection hu with hu; subst hu; exact ⟨by decide, _, rfl, aw_s⟩
    | i + 2, hu => cases hu) (by decide))
  go_enter Tryd.func6, Tryd.ntmps6
  go_wp2_with fail
  refine (K1.out _ (Below.refl _ _)).mono ?_
  rintro e w1 ⟨B1, B2, B3, B4, c1, c2, c3, c4, rfl, k1⟩
  have s1 : St w None _ [_, _, _, _, _] := k1.box 27 #[.int .i64 awT.who, .slice B1 1 c1, .slice B2 0 c2, .slice B3 0 c3, .slice B4 1 c4]
  obtain ⟨a1, ha1⟩ : ∃ a, w1.heap.size = a := ⟨_, rfl⟩
  rw [ha1] at s1
  have S1 := Lib.hid s1
  clear s1 k1
  go_wp2_with fail
  refine (K2.out _ S1.out.below).mono ?_
  rintro e w2 ⟨rfl, k2⟩
  have s2 := (S1.out.stay k2).box 27 #[.int .i64 0, .slice none 0 0, .slice none 0 0, .slice none 0 0, .slice none 0 0]
  have S2 := Lib.hid s2
  clear s2 k2
  go_wp2_with fail
  refine (K3.out _ S2.out.below).mono ?_
  rintro e w3 ⟨B, c, cs, rfl, hwh, k3⟩
  have s3 : St w None w3 [_, _, _, _, _, _, _] := S2.out.join k3
  clear k3
  obtain ⟨p0, p1, p2, p3, p4⟩ := (s3.blk 4 rfl).five5
  obtain ⟨g, o, rfl, hg, f1, f2, f3⟩ := s3.rdf (fs := awT.ft) 3 rfl 0 (7, 1, 5) rfl
  rw [Nat.zero_mul, Nat.add_zero] at f1 f2 f3
  obtain ⟨A', cap, ev, h1, h2, h3, h4⟩ := s3.lis_cells 6 rfl
  injection ev with e1 e2 e3
  subst e1; subst e3
  rcases h4 with h4 | ⟨g2, o2, rfl, hc⟩
  · cases h4
  have q1 := hc 5 _ (hwh.2 1 _ rfl)
  have hAt := s3.recAt (t := awT) 0 rfl rfl rfl rfl ⟨rfl, rfl, rfl, rfl⟩ ⟨by decide, by decide, by decide, by decide⟩
  have KT := ttext_o _ _ hAt ⟨by show (-9223372036854775808 : Int) ≤ 0; decide, by show (0 : Int) ≤ 9223372036854775807; decide⟩ (HT.out _ s3.below)
  rw [show txO (Rec.mk awT B1 B2 B3 (some ⟨g, o, none⟩) 1 0 0 1 c1 c2 c3 c4).t = _ from aw_x] at KT
  unfold stV Rec.cells awT at KT
  dsimp only at KT
  replace KT := Lib.hid KT
  unfold awT at p0
  dsimp only at p0 q1
  have S3 := Lib.hid s3
  clear s3 hwh hc h3 hAt
  go_wp2_with (first | (go_at_call 8; refine KT.out.mono ?_; rintro e w4 ⟨rfl, hb4⟩; have S4 := Lib.hid (S3.out.stay hb4); clear hb4) | fail)
  go_ret
  exact ⟨rfl, S4.out.below⟩
end Go.Proofs.YtlceanlenekanaaDoor
