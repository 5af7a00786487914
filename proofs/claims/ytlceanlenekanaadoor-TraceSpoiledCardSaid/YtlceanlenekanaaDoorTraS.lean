/- Layer 25: are two records the same; is a record small? -/
import Derived.Test.YtlceanlenekanaaDoorTraR
namespace Go.Proofs.YtlceanlenekanaaDoor
open Go.RowKit
set_option linter.unusedVariables false
set_option maxRecDepth 100000
set_option maxHeartbeats 4000000
theorem Blk.four4 {w : World} {g : Nat} {t : TypeId} {a b c d : Value} (h : Blk w g t #[a, b, c, d]) : w.cell? ⟨g, 0, none⟩ = some a ∧ w.cell? ⟨g, 1, none⟩ = some b ∧ w.cell? ⟨g, 2, none⟩ = some c ∧ w.cell? ⟨g, 3, none⟩ = some d :=
  ⟨h.cell 0, h.cell 1, h.cell 2, h.cell 3⟩
def sameR (a b : Tk) : Bool := decide (a.who = b.who) && decide (a.dn = b.dn) && decide (a.ct = b.ct) && decide (a.ms = b.ms)
def sameT (a b : Tk) : Bool := sameR a b && decide (a.ft = b.ft)
theorem sameT_iff (a b : Tk) : sameT a b = true ↔ a = b := by
  unfold sameT sameR
  simp only [Bool.and_eq_true, decide_eq_true_eq]
  constructor
  · rintro ⟨⟨⟨⟨h1, h2⟩, h3⟩, h4⟩, h5⟩
    obtain ⟨a1, a2, a3, a4, a5⟩ := a
    obtain ⟨b1, b2, b3, b4, b5⟩ := b
    dsimp only at h1 h2 h3 h4 h5
    rw [h1, h2, h3, h4, h5]
  · rintro rfl
    exact ⟨⟨⟨⟨rfl, rfl⟩, rfl⟩, rfl⟩, rfl⟩
theorem ran_o (t u : Tk) (A1 A2 A3 A4 B1 B2 B3 B4 : Option Addr) (n1 n2 n3 n4 c1 c2 c3 c4 m1 m2 m3 m4 d1 d2 d3 d4 : Nat) (w : World) (h : (Rec.mk t A1 A2 A3 A4 n1 n2 n3 n4 c1 c2 c3 c4).At w) (k : (Rec.mk u B1 B2 B3 B4 m1 m2 m3 m4 d1 d2 d3 d4).At w) :
    Calls Tryd.prog 26 #[.agg #[.int .i64 t.who, .slice A1 n1 c1, .slice A2 n2 c2, .slice A3 n3 c3], .agg #[.int .i64 u.who, .slice B1 m1 d1, .slice B2 m2 d2, .slice B3 m3 d3]] w fun e w' => e = .returned (.bool (sameR t u)) ∧ Below w.heap.size w w' := by
  obtain ⟨a, ha⟩ : ∃ a, w.heap.size = a := ⟨_, rfl⟩
  have s0 := (St.begin w).box 24 #[.int .i64 t.who, .slice A1 n1 c1, .slice A2 n2 c2, .slice A3 n3 c3]
  rw [ha] at s0
  have s1 := s0.box 24 #[.int .i64 u.who, .slice B1 m1 d1, .slice B2 m2 d2, .slice B3 m3 d3]
  rw [show (w.alloc (.cells #[.int .i64 t.who, .slice A1 n1 c1, .slice A2 n2 c2, .slice A3 n3 c3] 24)).heap.size = a + 1 by simp [ha]] at s1
  have K1 := Lib.hid (fun (w' : World) (hb : Below w.heap.size w w') => ints_o A1 B1 n1 m1 c1 d1 t.dn u.dn w' h.l1 k.l1 (by have := h.m1; dsimp only at this; omega) (by have := k.m1; dsimp only at this; omega) (h.on hb).r1 (k.on hb).r1)
  have K2 := Lib.hid (fun (w' : World) (hb : Below w.heap.size w w') => ints_o A2 B2 n2 m2 c2 d2 t.ct u.ct w' h.l2 k.l2 (by have := h.m2; dsimp only at this; omega) (by have := k.m2; dsimp only at this; omega) (h.on hb).r2 (k.on hb).r2)
  have K3 := Lib.hid (fun (w' : World) (hb : Below w.heap.size w w') => ints_o A3 B3 n3 m3 c3 d3 t.ms u.ms w' h.l3 k.l3 (by have := h.m3; dsimp only at this; omega) (by have := k.m3; dsimp only at this; omega) (h.on hb).r3 (k.on hb).r3)
  obtain ⟨p0, p1, p2, p3⟩ := (s1.blk 0 rfl).four4
  obtain ⟨q0, q1, q2, q3⟩ := (s1.blk 1 rfl).four4
  have S0 := Lib.hid s1
  clear s0 s1 h k
  by_cases e0 : t.who = u.who
  rotate_left 1
  · have HV := Lib.hid (show sameR t u = false from by unfold sameR; rw [decide_eq_false (e0)]; rfl)
    have y0 : (t.who == u.who) = false := beq_eq_false_iff_ne.2 e0
    clear e0
    go_enter Tryd.func26, Tryd.ntmps26
    go_wp2_with (first | fail)
    go_ret
    exact ⟨by rw [HV.out]; rfl, S0.out.below⟩
  by_cases e1 : t.dn = u.dn
  rotate_left 1
  · have HV := Lib.hid (show sameR t u = false from by unfold sameR; rw [decide_eq_true (e0), decide_eq_false (e1)]; rfl)
    have y0 : (t.who == u.who) = true := beq_iff_eq.2 e0
    replace K1 := Lib.hid (fun w' hb => K1.out w' hb)
    have V1 : decide (t.dn = u.dn) = false := decide_eq_false e1
    rw [V1] at K1
    clear V1
    clear e0 e1
    go_enter Tryd.func26, Tryd.ntmps26
    go_wp2_with (first | (have HBEL := S0.out.below; go_at_call 37; refine (K1.out _ HBEL).mono ?_; clear HBEL; rintro e w2 ⟨rfl, hb1⟩; have S1 := Lib.hid (S0.out.stay hb1); clear hb1; obtain ⟨p0, p1, p2, p3⟩ := (S1.out.blk 0 rfl).four4; obtain ⟨q0, q1, q2, q3⟩ := (S1.out.blk 1 rfl).four4) | fail)
    go_ret
    exact ⟨by rw [HV.out]; rfl, S1.out.below⟩
  by_cases e2 : t.ct = u.ct
  rotate_left 1
  · have HV := Lib.hid (show sameR t u = false from by unfold sameR; rw [decide_eq_true (e0), decide_eq_true (e1), decide_eq_false (e2)]; rfl)
    have y0 : (t.who == u.who) = true := beq_iff_eq.2 e0
    replace K1 := Lib.hid (fun w' hb => K1.out w' hb)
    have V1 : decide (t.dn = u.dn) = true := decide_eq_true e1
    rw [V1] at K1
    clear V1
    replace K2 := Lib.hid (fun w' hb => K2.out w' hb)
    have V2 : decide (t.ct = u.ct) = false := decide_eq_false e2
    rw [V2] at K2
    clear V2
    clear e0 e1 e2
    go_enter Tryd.func26, Tryd.ntmps26
    go_wp2_with (first | (have HBEL := S1.out.below; go_at_call 37; refine (K2.out _ HBEL).mono ?_; clear HBEL; rintro e w3 ⟨rfl, hb2⟩; have S2 := Lib.hid (S1.out.stay hb2); clear hb2; obtain ⟨p0, p1, p2, p3⟩ := (S2.out.blk 0 rfl).four4; obtain ⟨q0, q1, q2, q3⟩ := (S2.out.blk 1 rfl).four4) | (have HBEL := S0.out.below; go_at_call 37; refine (K1.out _ HBEL).mono ?_; clear HBEL; rintro e w2 ⟨rfl, hb1⟩; have S1 := Lib.hid (S0.out.stay hb1); clear hb1; obtain ⟨p0, p1, p2, p3⟩ := (S1.out.blk 0 rfl).four4; obtain ⟨q0, q1, q2, q3⟩ := (S1.out.blk 1 rfl).four4) | fail)
    go_ret
    exact ⟨by rw [HV.out]; rfl, S2.out.below⟩
  by_cases e3 : t.ms = u.ms
  rotate_left 1
  · have HV := Lib.hid (show sameR t u = false from by unfold sameR; rw [decide_eq_true (e0), decide_eq_true (e1), decide_eq_true (e2), decide_eq_false (e3)]; rfl)
    have y0 : (t.who == u.who) = true := beq_iff_eq.2 e0
    replace K1 := Lib.hid (fun w' hb => K1.out w' hb)
    have V1 : decide (t.dn = u.dn) = true := decide_eq_true e1
    rw [V1] at K1
    clear V1
    replace K2 := Lib.hid (fun w' hb => K2.out w' hb)
    have V2 : decide (t.ct = u.ct) = true := decide_eq_true e2
    rw [V2] at K2
    clear V2
    replace K3 := Lib.hid (fun w' hb => K3.out w' hb)
    have V3 : decide (t.ms = u.ms) = false := decide_eq_false e3
    rw [V3] at K3
    clear V3
    clear e0 e1 e2 e3
    go_enter Tryd.func26, Tryd.ntmps26
    go_wp2_with (first | (have HBEL := S2.out.below; go_at_call 37; refine (K3.out _ HBEL).mono ?_; clear HBEL; rintro e w4 ⟨rfl, hb3⟩; have S3 := Lib.hid (S2.out.stay hb3); clear hb3; obtain ⟨p0, p1, p2, p3⟩ := (S3.out.blk 0 rfl).four4; obtain ⟨q0, q1, q2, q3⟩ := (S3.out.blk 1 rfl).four4) | (have HBEL := S1.out.below; go_at_call 37; refine (K2.out _ HBEL).mono ?_; clear HBEL; rintro e w3 ⟨rfl, hb2⟩; have S2 := Lib.hid (S1.out.stay hb2); clear hb2; obtain ⟨p0, p1, p2, p3⟩ := (S2.out.blk 0 rfl).four4; obtain ⟨q0, q1, q2, q3⟩ := (S2.out.blk 1 rfl).four4) | (have HBEL := S0.out.below; go_at_call 37; refine (K1.out _ HBEL).mono ?_; clear HBEL; rintro e w2 ⟨rfl, hb1⟩; have S1 := Lib.hid (S0.out.stay hb1); clear hb1; obtain ⟨p0, p1, p2, p3⟩ := (S1.out.blk 0 rfl).four4; obtain ⟨q0, q1, q2, q3⟩ := (S1.out.blk 1 rfl).four4) | fail)
    go_ret
    exact ⟨by rw [HV.out]; rfl, S3.out.below⟩
  have HV := Lib.hid (show sameR t u = true from by unfold sameR; rw [decide_eq_true e0, decide_eq_true e1, decide_eq_true e2, decide_eq_true e3]; rfl)
  have y0 : (t.who == u.who) = true := beq_iff_eq.2 e0
  replace K1 := Lib.hid (fun w' hb => K1.out w' hb)
  have V1 : decide (t.dn = u.dn) = true := decide_eq_true e1
  rw [V1] at K1
  clear V1
  replace K2 := Lib.hid (fun w' hb => K2.out w' hb)
  have V2 : decide (t.ct = u.ct) = true := decide_eq_true e2
  rw [V2] at K2
  clear V2
  replace K3 := Lib.hid (fun w' hb => K3.out w' hb)
  have V3 : decide (t.ms = u.ms) = true := decide_eq_true e3
  rw [V3] at K3
  clear V3
  clear e0 e1 e2 e3
  go_enter Tryd.func26, Tryd.ntmps26
  go_wp2_with (first | (have HBEL := S2.out.below; go_at_call 37; refine (K3.out _ HBEL).mono ?_; clear HBEL; rintro e w4 ⟨rfl, hb3⟩; have S3 := Lib.hid (S2.out.stay hb3); clear hb3; obtain ⟨p0, p1, p2, p3⟩ := (S3.out.blk 0 rfl).four4; obtain ⟨q0, q1, q2, q3⟩ := (S3.out.blk 1 rfl).four4) | (have HBEL := S1.out.below; go_at_call 37; refine (K2.out _ HBEL).mono ?_; clear HBEL; rintro e w3 ⟨rfl, hb2⟩; have S2 := Lib.hid (S1.out.stay hb2); clear hb2; obtain ⟨p0, p1, p2, p3⟩ := (S2.out.blk 0 rfl).four4; obtain ⟨q0, q1, q2, q3⟩ := (S2.out.blk 1 rfl).four4) | (have HBEL := S0.out.below; go_at_call 37; refine (K1.out _ HBEL).mono ?_; clear HBEL; rintro e w2 ⟨rfl, hb1⟩; have S1 := Lib.hid (S0.out.stay hb1); clear hb1; obtain ⟨p0, p1, p2, p3⟩ := (S1.out.blk 0 rfl).four4; obtain ⟨q0, q1, q2, q3⟩ := (S1.out.blk 1 rfl).four4) | fail)
  go_ret
  exact ⟨by rw [HV.out]; rfl, S3.out.below⟩
theorem same25_o (t u : Tk) (A1 A2 A3 A4 B1 B2 B3 B4 : Option Addr) (n1 n2 n3 n4 c1 c2 c3 c4 m1 m2 m3 m4 d1 d2 d3 d4 : Nat) (w : World) (h : (Rec.mk t A1 A2 A3 A4 n1 n2 n3 n4 c1 c2 c3 c4).At w) (k : (Rec.mk u B1 B2 B3 B4 m1 m2 m3 m4 d1 d2 d3 d4).At w) :
    Calls Tryd.prog 13 #[.agg #[.int .i64 t.who, .slice A1 n1 c1, .slice A2 n2 c2, .slice A3 n3 c3, .slice A4 n4 c4], .agg #[.int .i64 u.who, .slice B1 m1 d1, .slice B2 m2 d2, .slice B3 m3 d3, .slice B4 m4 d4]] w fun e w' => e = .returned (.bool (sameT t u)) ∧ Below w.heap.size w w' := by
  obtain ⟨a, ha⟩ : ∃ a, w.heap.size = a := ⟨_, rfl⟩
  have s0 := (St.begin w).box 27 #[.int .i64 t.who, .slice A1 n1 c1, .slice A2 n2 c2, .slice A3 n3 c3, .slice A4 n4 c4]
  rw [ha] at s0
  have s1 := s0.box 27 #[.int .i64 u.who, .slice B1 m1 d1, .slice B2 m2 d2, .slice B3 m3 d3, .slice B4 m4 d4]
  rw [show (w.alloc (.cells #[.int .i64 t.who, .slice A1 n1 c1, .slice A2 n2 c2, .slice A3 n3 c3, .slice A4 n4 c4] 27)).heap.size = a + 1 by simp [ha]] at s1
  have K1 := Lib.hid (fun (w' : World) (hb : Below w.heap.size w w') => ran_o t u A1 A2 A3 A4 B1 B2 B3 B4 n1 n2 n3 n4 c1 c2 c3 c4 m1 m2 m3 m4 d1 d2 d3 d4 w' (h.on hb) (k.on hb))
  have K2 := Lib.hid (fun (w' : World) (hb : Below w.heap.size w w') => fates_o A4 B4 n4 m4 c4 d4 t.ft u.ft w' h.l4 k.l4 (by have := h.m4; dsimp only at this; omega) (by have := k.m4; dsimp only at this; omega) (h.on hb).r4 (k.on hb).r4)
  obtain ⟨p0, p1, p2, p3, p4⟩ := (s1.blk 0 rfl).five5
  obtain ⟨q0, q1, q2, q3, q4⟩ := (s1.blk 1 rfl).five5
  have S0 := Lib.hid s1
  have HV := Lib.hid (show sameT t u = (sameR t u && decide (t.ft = u.ft)) from rfl)
  clear s0 s1 h k
  obtain ⟨X, hX⟩ : ∃ X, sameR t u = X := ⟨_, rfl⟩
  obtain ⟨Y, hY⟩ : ∃ Y, decide (t.ft = u.ft) = Y := ⟨_, rfl⟩
  rw [hX] at K1
  rw [hY] at K2
  rw [hX, hY] at HV
  clear hX hY
  cases X with
  | false =>
    go_enter Tryd.func13, Tryd.ntmps13
    go_wp2_with (first | (go_at_call 26; refine (K1.out _ S0.out.below).mono ?_; rintro e w2 ⟨rfl, hb1⟩; have S1 := Lib.hid (S0.out.stay hb1); clear hb1; obtain ⟨p0, p1, p2, p3, p4⟩ := (S1.out.blk 0 rfl).five5; obtain ⟨q0, q1, q2, q3, q4⟩ := (S1.out.blk 1 rfl).five5) | fail)
    go_ret
    exact ⟨by rw [HV.out]; rfl, S1.out.below⟩
  | true =>
    go_enter Tryd.func13, Tryd.ntmps13
    go_wp2_with (first | (go_at_call 26; refine (K1.out _ S0.out.below).mono ?_; rintro e w2 ⟨rfl, hb1⟩; have S1 := Lib.hid (S0.out.stay hb1); clear hb1; obtain ⟨p0, p1, p2, p3, p4⟩ := (S1.out.blk 0 rfl).five5; obtain ⟨q0, q1, q2, q3, q4⟩ := (S1.out.blk 1 rfl).five5) | (go_at_call 27; refine (K2.out _ S1.out.below).mono ?_; rintro e w3 ⟨rfl, hb2⟩; have S2 := Lib.hid (S1.out.stay hb2); clear hb2) | fail)
    go_ret
    exact ⟨by rw [HV.out]; rfl, S2.out.below⟩
def smallN (n1 n2 n3 n4 : Nat) : Bool := decide ((n1 : Int) ≤ 40) && decide ((n2 : Int) ≤ 40) && decide ((n3 : Int) ≤ 40) && decide ((n4 : Int) ≤ 40)
theorem small25_o (x : Int) (A1 A2 A3 A4 : Option Addr) (n1 n2 n3 n4 c1 c2 c3 c4 : Nat) (w : World) :
    Calls Tryd.prog 7 #[.agg #[.int .i64 x, .slice A1 n1 c1, .slice A2 n2 c2, .slice A3 n3 c3, .slice A4 n4 c4]] w fun e w' => e = .returned (.bool (smallN n1 n2 n3 n4)) ∧ Below w.heap.size w w' := by
  have s0 := (St.begin w).box 27 #[.int .i64 x, .slice A1 n1 c1, .slice A2 n2 c2, .slice A3 n3 c3, .slice A4 n4 c4]
  obtain ⟨a, ha⟩ : ∃ a, w.heap.size = a := ⟨_, rfl⟩
  rw [ha] at s0
  obtain ⟨p0, p1, p2, p3, p4⟩ := (s0.blk 0 rfl).five5
  have S0 := Lib.hid s0
  have HV := Lib.hid (show smallN n1 n2 n3 n4 = (decide ((n1 : Int) ≤ 40) && decide ((n2 : Int) ≤ 40) && decide ((n3 : Int) ≤ 40) && decide ((n4 : Int) ≤ 40)) from rfl)
  clear s0
  cases e1 : decide ((n1 : Int) ≤ 40) <;> cases e2 : decide ((n2 : Int) ≤ 40) <;> cases e3 : decide ((n3 : Int) ≤ 40) <;> cases e4 : decide ((n4 : Int) ≤ 40) <;> (
    rw [e1, e2, e3, e4] at HV
    go_enter Tryd.func7, Tryd.ntmps7
    go_wp2
    go_ret
    exact ⟨by rw [HV.out]; rfl, S0.out.below⟩)
end Go.Proofs.YtlceanlenekanaaDoor
