/- Layer 25: the document's May. -/
import Derived.Test.YtlceanlenekanaaDoorTraH
namespace Go.Proofs.YtlceanlenekanaaDoor
open Go.RowKit
set_option linter.unusedVariables false
set_option maxRecDepth 100000
set_option maxHeartbeats 4000000
theorem rmay25_o (r : Rec) (w : World) (h : r.At w) : Calls Tryd.prog 11 #[.agg r.cells] w fun e w' => e = .returned (.bool (mayT r.t)) ∧ Below w.heap.size w w' := by
  obtain ⟨t, A1, A2, A3, A4, n1, n2, n3, n4, c1, c2, c3, c4⟩ := r
  have hb := (St.begin w).box 27 (Rec.mk t A1 A2 A3 A4 n1 n2 n3 n4 c1 c2 c3 c4).cells
  obtain ⟨a, ha⟩ : ∃ a, w.heap.size = a := ⟨_, rfl⟩
  rw [ha] at hb
  unfold Rec.cells at hb ⊢
  dsimp only at hb ⊢
  obtain ⟨p0, p1, p2, p3, p4⟩ := (hb.blk 0 rfl).five5
  have HH := Lib.hid h
  have HB := Lib.hid hb
  have l4 : t.ft.length = n4 := h.l4
  have m4 : n4 ≤ 100000 := h.m4
  have K1 := Lib.hid (fun (w' : World) (hb : Below w.heap.size w w') => rising_o A1 n1 c1 t.dn w' h.l1 (by have : n1 ≤ 100000 := h.m1; omega) (h.r1.on2 hb))
  have K2 := Lib.hid (fun (w' : World) (hb : Below w.heap.size w w') => rising_o A2 n2 c2 t.ct w' h.l2 (by have : n2 ≤ 100000 := h.m2; omega) (h.r2.on2 hb))
  have K3 := Lib.hid (fun (w' : World) (hb : Below w.heap.size w w') => rising_o A3 n3 c3 t.ms w' h.l3 (by have : n3 ≤ 100000 := h.m3; omega) (h.r3.on2 hb))
  clear h hb
  cases hw : mayW t.who with
  | false =>
    have HV := Lib.hid (show mayT t = false by unfold mayT; rw [hw]; simp)
    have dd : (decide (-1 ≤ t.who) = false ∧ decide (100 ≤ t.who) = false) ∨ (decide (-1 ≤ t.who) = true ∧ decide (t.who ≤ 31) = false ∧ decide (100 ≤ t.who) = false) ∨ (decide (-1 ≤ t.who) = true ∧ decide (t.who ≤ 31) = false ∧ decide (100 ≤ t.who) = true ∧ decide (t.who ≤ 115) = false) := by
      have hn : ¬ (t.who = -1 ∨ (0 ≤ t.who ∧ t.who < 32) ∨ (100 ≤ t.who ∧ t.who < 116)) := fun h => by
        have : mayW t.who = true := by
          unfold mayW
          simp only [Bool.or_eq_true, Bool.and_eq_true, decide_eq_true_eq]
          rcases h with h | h | h
          · exact Or.inl (Or.inl h)
          · exact Or.inl (Or.inr h)
          · exact Or.inr h
        rw [hw] at this; cases this
      by_cases h1 : -1 ≤ t.who
      · by_cases h3 : 100 ≤ t.who
        · exact Or.inr (Or.inr ⟨decide_eq_true h1, decide_eq_false (by omega), decide_eq_true h3, decide_eq_false (by omega)⟩)
        · exact Or.inr (Or.inl ⟨decide_eq_true h1, decide_eq_false (by omega), decide_eq_false h3⟩)
      · exact Or.inl ⟨decide_eq_false h1, decide_eq_false (by omega)⟩
    clear hw
    rcases dd with ⟨d1, d3⟩ | ⟨d1, d2, d3⟩ | ⟨d1, d2, d3, d4⟩ <;> (
      go_enter Tryd.func11, Tryd.ntmps11
      go_wp2_with fail
      go_ret
      exact ⟨by rw [HV.out]; rfl, HB.out.below⟩)
  | true =>
  have dd : (decide (-1 ≤ t.who) = true ∧ decide (t.who ≤ 31) = true) ∨ (decide (-1 ≤ t.who) = true ∧ decide (t.who ≤ 31) = false ∧ decide (100 ≤ t.who) = true ∧ decide (t.who ≤ 115) = true) := by
    rcases mayW_in hw with h | h | h
    · exact Or.inl ⟨decide_eq_true (by omega), decide_eq_true (by omega)⟩
    · exact Or.inl ⟨decide_eq_true (by omega), decide_eq_true (by omega)⟩
    · exact Or.inr ⟨decide_eq_true (by omega), decide_eq_false (by omega), decide_eq_true (by omega), decide_eq_true (by omega)⟩
  have HW := Lib.hid hw
  clear hw
  cases h1 : rsI (-1) t.dn with
  | false =>
    rw [h1] at K1
    have HV := Lib.hid (show mayT t = false by unfold mayT; rw [h1]; simp)
    rcases dd with ⟨d1, d2⟩ | ⟨d1, d2, d3, d4⟩ <;> (
      go_enter Tryd.func11, Tryd.ntmps11
      go_wp2_with fail
      refine (K1.out _ HB.out.below).mono ?_
      rintro e w1 ⟨rfl, hb1⟩
      have S1 := Lib.hid (HB.out.stay hb1)
      obtain ⟨p0, p1, p2, p3, p4⟩ := (S1.out.blk 0 rfl).five5
      clear hb1
      go_wp2_with fail
      go_ret
      exact ⟨by rw [HV.out]; rfl, S1.out.below⟩)
  | true =>
  rw [h1] at K1
  have H1 := Lib.hid h1
  clear h1
  cases h2 : rsI (-1) t.ct with
  | false =>
    rw [h2] at K2
    have HV := Lib.hid (show mayT t = false by unfold mayT; rw [h2]; simp)
    rcases dd with ⟨d1, d2⟩ | ⟨d1, d2, d3, d4⟩ <;> (
      go_enter Tryd.func11, Tryd.ntmps11
      go_wp2_with fail
      refine (K1.out _ HB.out.below).mono ?_
      rintro e w1 ⟨rfl, hb1⟩
      have S1 := Lib.hid (HB.out.stay hb1)
      obtain ⟨p0, p1, p2, p3, p4⟩ := (S1.out.blk 0 rfl).five5
      clear hb1
      go_wp2_with fail
      refine (K2.out _ S1.out.below).mono ?_
      rintro e w2 ⟨rfl, hb2⟩
      have S2 := Lib.hid (S1.out.stay hb2)
      obtain ⟨p0, p1, p2, p3, p4⟩ := (S2.out.blk 0 rfl).five5
      clear hb2
      go_wp2_with fail
      go_ret
      exact ⟨by rw [HV.out]; rfl, S2.out.below⟩)
  | true =>
  rw [h2] at K2
  have H2 := Lib.hid h2
  clear h2
  cases h3 : rsI (-1) t.ms with
  | false =>
    rw [h3] at K3
    have HV := Lib.hid (show mayT t = false by unfold mayT; rw [h3]; simp)
    rcases dd with ⟨d1, d2⟩ | ⟨d1, d2, d3, d4⟩ <;> (
      go_enter Tryd.func11, Tryd.ntmps11
      go_wp2_with fail
      refine (K1.out _ HB.out.below).mono ?_
      rintro e w1 ⟨rfl, hb1⟩
      have S1 := Lib.hid (HB.out.stay hb1)
      obtain ⟨p0, p1, p2, p3, p4⟩ := (S1.out.blk 0 rfl).five5
      clear hb1
      go_wp2_with fail
      refine (K2.out _ S1.out.below).mono ?_
      rintro e w2 ⟨rfl, hb2⟩
      have S2 := Lib.hid (S1.out.stay hb2)
      obtain ⟨p0, p1, p2, p3, p4⟩ := (S2.out.blk 0 rfl).five5
      clear hb2
      go_wp2_with fail
      refine (K3.out _ S2.out.below).mono ?_
      rintro e w3 ⟨rfl, hb3⟩
      have S3 := Lib.hid (S2.out.stay hb3)
      obtain ⟨p0, p1, p2, p3, p4⟩ := (S3.out.blk 0 rfl).five5
      clear hb3
      go_wp2_with fail
      go_ret
      exact ⟨by rw [HV.out]; rfl, S3.out.below⟩)
  | true =>
  rw [h3] at K3
  have H3 := Lib.hid h3
  clear h3
  have HV := Lib.hid (show mayT t = t.ft.all mayF by unfold mayT; rw [HW.out, H1.out, H2.out, H3.out]; simp)
  rcases dd with ⟨d1, d2⟩ | ⟨d1, d2, d3, d4⟩ <;> (
    go_enter Tryd.func11, Tryd.ntmps11
    go_wp2_with fail
    refine (K1.out _ HB.out.below).mono ?_
    rintro e w1 ⟨rfl, hb1⟩
    have S1 := Lib.hid (HB.out.stay hb1)
    obtain ⟨p0, p1, p2, p3, p4⟩ := (S1.out.blk 0 rfl).five5
    clear hb1
    go_wp2_with fail
    refine (K2.out _ S1.out.below).mono ?_
    rintro e w2 ⟨rfl, hb2⟩
    have S2 := Lib.hid (S1.out.stay hb2)
    obtain ⟨p0, p1, p2, p3, p4⟩ := (S2.out.blk 0 rfl).five5
    clear hb2
    go_wp2_with fail
    refine (K3.out _ S2.out.below).mono ?_
    rintro e w3 ⟨rfl, hb3⟩
    have S3 := Lib.hid (S2.out.stay hb3)
    obtain ⟨p0, p1, p2, p3, p4⟩ := (S3.out.blk 0 rfl).five5
    clear hb3
    go_wp2_with fail
    go_loopw [4, 5, 6, 7] (fun x4 _ _ _ wr => ∃ i : Nat, i ≤ n4 ∧ x4 = .int .i64 (i : Int) ∧ (t.ft.take i).all mayF = true ∧ St w None wr [BlkR a 27 #[.int .i64 t.who, .slice A1 n1 c1, .slice A2 n2 c2, .slice A3 n3 c3, .slice A4 n4 c4]]) (fun x4 _ _ _ _ => n4 - (intOf x4).toNat)
    case atStart => exact ⟨0, Nat.zero_le _, rfl, rfl, S3.out⟩
    case round =>
    obtain ⟨i, hi, rfl, had, hst⟩ := hrel
    have HD := Lib.hid had
    clear had p0 p1 p2 p3 p4
    obtain ⟨p0, p1, p2, p3, p4⟩ := (hst.blk 0 rfl).five5
    by_cases hlt : i < n4
    · have z1 : decide ((i : Int) < (n4 : Int)) = true := decide_eq_true (by omega)
      obtain ⟨f, hf⟩ : ∃ f, t.ft[i]? = some f := ⟨t.ft[i]'(by omega), List.getElem?_eq_getElem _⟩
      obtain ⟨g, o, hA4, hg, k0, k1, k2⟩ := (HH.out.on hst.below).r4 i f hf
      dsimp only at hA4
      subst hA4
      obtain ⟨x, k, y⟩ := f
      dsimp only at k0 k1 k2
      have HS := Lib.hid (hst.box 36 #[.int .i64 x, .int .i64 k, .int .i64 y])
      have HG := Lib.hid (fun (h : mayF (x, k, y) = true) => allF_more hf h HD.out)
      have HN := Lib.hid (fun (h : mayF (x, k, y) = false) => allF_none hf h)
      clear hst hf
      have yes : (0 ≤ x ∧ x ≤ 65535) → ((k = 1 ∧ 0 ≤ y ∧ y ≤ 255) ∨ (k = 2 ∧ 1 ≤ y ∧ y ≤ 3)) → mayF (x, k, y) = true := fun h1 h2 => by
        unfold mayF
        simp only [Bool.and_eq_true, Bool.or_eq_true, decide_eq_true_eq]
        exact ⟨h1, h2⟩
      have no : ¬ ((0 ≤ x ∧ x ≤ 65535) ∧ ((k = 1 ∧ 0 ≤ y ∧ y ≤ 255) ∨ (k = 2 ∧ 1 ≤ y ∧ y ≤ 3))) → mayF (x, k, y) = false := fun h1 => by
        rw [Bool.eq_false_iff]
        intro h2
        unfold mayF at h2
        simp only [Bool.and_eq_true, Bool.or_eq_true, decide_eq_true_eq] at h2
        exact h1 ⟨h2.1, h2.2⟩
      have HY := Lib.hid yes
      have HO := Lib.hid no
      clear yes no
      have ee : (k = 1 ∧ y < 0) ∨ (k = 1 ∧ 255 < y) ∨ (k = 1 ∧ 0 ≤ y ∧ y ≤ 255) ∨ (k = 2 ∧ y < 1) ∨ (k = 2 ∧ 3 < y) ∨ (k = 2 ∧ 1 ≤ y ∧ y ≤ 3) ∨ (k ≠ 1 ∧ k ≠ 2) := by omega
      rcases ee with ee | ee | ee | ee | ee | ee | ee
      · have b1 : (k == 1) = true := beq_iff_eq.2 (by omega)
        have b2 : decide (0 ≤ y) = false := decide_eq_false (by omega)
        have b5 : (k == 2) = false := beq_eq_false_iff_ne.2 (by omega)
        rcases (show (x < 0) ∨ (65535 < x) ∨ (0 ≤ x ∧ x ≤ 65535) by omega) with xx | xx | xx
        · have e1 : decide (x < 0) = true := decide_eq_true (by omega)
          have H9 := Lib.hid (HN.out (HO.out (by omega)))
          clear ee xx
          go_wp2_with fail
          go_ret
          exact ⟨by rw [HV.out, H9.out]; rfl, HS.out.below⟩
        · have e1 : decide (x < 0) = false := decide_eq_false (by omega)
          have e2 : decide (65535 < x) = true := decide_eq_true (by omega)
          have H9 := Lib.hid (HN.out (HO.out (by omega)))
          clear ee xx
          go_wp2_with fail
          go_ret
          exact ⟨by rw [HV.out, H9.out]; rfl, HS.out.below⟩
        · have e1 : decide (x < 0) = false := decide_eq_false (by omega)
          have e2 : decide (65535 < x) = false := decide_eq_false (by omega)
          have H9 := Lib.hid (HN.out (HO.out (by omega)))
          clear ee xx
          go_wp2_with fail
          go_ret
          exact ⟨by rw [HV.out, H9.out]; rfl, HS.out.below⟩
      · have b1 : (k == 1) = true := beq_iff_eq.2 (by omega)
        have b2 : decide (0 ≤ y) = true := decide_eq_true (by omega)
        have b3 : decide (y ≤ 255) = false := decide_eq_false (by omega)
        have b5 : (k == 2) = false := beq_eq_false_iff_ne.2 (by omega)
        rcases (show (x < 0) ∨ (65535 < x) ∨ (0 ≤ x ∧ x ≤ 65535) by omega) with xx | xx | xx
        · have e1 : decide (x < 0) = true := decide_eq_true (by omega)
          have H9 := Lib.hid (HN.out (HO.out (by omega)))
          clear ee xx
          go_wp2_with fail
          go_ret
          exact ⟨by rw [HV.out, H9.out]; rfl, HS.out.below⟩
        · have e1 : decide (x < 0) = false := decide_eq_false (by omega)
          have e2 : decide (65535 < x) = true := decide_eq_true (by omega)
          have H9 := Lib.hid (HN.out (HO.out (by omega)))
          clear ee xx
          go_wp2_with fail
          go_ret
          exact ⟨by rw [HV.out, H9.out]; rfl, HS.out.below⟩
        · have e1 : decide (x < 0) = false := decide_eq_false (by omega)
          have e2 : decide (65535 < x) = false := decide_eq_false (by omega)
          have H9 := Lib.hid (HN.out (HO.out (by omega)))
          clear ee xx
          go_wp2_with fail
          go_ret
          exact ⟨by rw [HV.out, H9.out]; rfl, HS.out.below⟩
      · have b1 : (k == 1) = true := beq_iff_eq.2 (by omega)
        have b2 : decide (0 ≤ y) = true := decide_eq_true (by omega)
        have b3 : decide (y ≤ 255) = true := decide_eq_true (by omega)
        have b5 : (k == 2) = false := beq_eq_false_iff_ne.2 (by omega)
        rcases (show (x < 0) ∨ (65535 < x) ∨ (0 ≤ x ∧ x ≤ 65535) by omega) with xx | xx | xx
        · have e1 : decide (x < 0) = true := decide_eq_true (by omega)
          have H9 := Lib.hid (HN.out (HO.out (by omega)))
          clear ee xx
          go_wp2_with fail
          go_ret
          exact ⟨by rw [HV.out, H9.out]; rfl, HS.out.below⟩
        · have e1 : decide (x < 0) = false := decide_eq_false (by omega)
          have e2 : decide (65535 < x) = true := decide_eq_true (by omega)
          have H9 := Lib.hid (HN.out (HO.out (by omega)))
          clear ee xx
          go_wp2_with fail
          go_ret
          exact ⟨by rw [HV.out, H9.out]; rfl, HS.out.below⟩
        · have e1 : decide (x < 0) = false := decide_eq_false (by omega)
          have e2 : decide (65535 < x) = false := decide_eq_false (by omega)
          have H9 := Lib.hid (HG.out (HY.out (by omega) (by omega)))
          clear ee xx
          go_wp2_with fail
          go_roundw
          case rel => exact ⟨i + 1, by omega, by go_num, H9.out, HS.out.take 1⟩
          case measure => simp [intOf]; omega
      · have b1 : (k == 1) = false := beq_eq_false_iff_ne.2 (by omega)
        have b5 : (k == 2) = true := beq_iff_eq.2 (by omega)
        have b6 : decide (1 ≤ y) = false := decide_eq_false (by omega)
        rcases (show (x < 0) ∨ (65535 < x) ∨ (0 ≤ x ∧ x ≤ 65535) by omega) with xx | xx | xx
        · have e1 : decide (x < 0) = true := decide_eq_true (by omega)
          have H9 := Lib.hid (HN.out (HO.out (by omega)))
          clear ee xx
          go_wp2_with fail
          go_ret
          exact ⟨by rw [HV.out, H9.out]; rfl, HS.out.below⟩
        · have e1 : decide (x < 0) = false := decide_eq_false (by omega)
          have e2 : decide (65535 < x) = true := decide_eq_true (by omega)
          have H9 := Lib.hid (HN.out (HO.out (by omega)))
          clear ee xx
          go_wp2_with fail
          go_ret
          exact ⟨by rw [HV.out, H9.out]; rfl, HS.out.below⟩
        · have e1 : decide (x < 0) = false := decide_eq_false (by omega)
          have e2 : decide (65535 < x) = false := decide_eq_false (by omega)
          have H9 := Lib.hid (HN.out (HO.out (by omega)))
          clear ee xx
          go_wp2_with fail
          go_ret
          exact ⟨by rw [HV.out, H9.out]; rfl, HS.out.below⟩
      · have b1 : (k == 1) = false := beq_eq_false_iff_ne.2 (by omega)
        have b5 : (k == 2) = true := beq_iff_eq.2 (by omega)
        have b6 : decide (1 ≤ y) = true := decide_eq_true (by omega)
        have b7 : decide (y ≤ 3) = false := decide_eq_false (by omega)
        rcases (show (x < 0) ∨ (65535 < x) ∨ (0 ≤ x ∧ x ≤ 65535) by omega) with xx | xx | xx
        · have e1 : decide (x < 0) = true := decide_eq_true (by omega)
          have H9 := Lib.hid (HN.out (HO.out (by omega)))
          clear ee xx
          go_wp2_with fail
          go_ret
          exact ⟨by rw [HV.out, H9.out]; rfl, HS.out.below⟩
        · have e1 : decide (x < 0) = false := decide_eq_false (by omega)
          have e2 : decide (65535 < x) = true := decide_eq_true (by omega)
          have H9 := Lib.hid (HN.out (HO.out (by omega)))
          clear ee xx
          go_wp2_with fail
          go_ret
          exact ⟨by rw [HV.out, H9.out]; rfl, HS.out.below⟩
        · have e1 : decide (x < 0) = false := decide_eq_false (by omega)
          have e2 : decide (65535 < x) = false := decide_eq_false (by omega)
          have H9 := Lib.hid (HN.out (HO.out (by omega)))
          clear ee xx
          go_wp2_with fail
          go_ret
          exact ⟨by rw [HV.out, H9.out]; rfl, HS.out.below⟩
      · have b1 : (k == 1) = false := beq_eq_false_iff_ne.2 (by omega)
        have b5 : (k == 2) = true := beq_iff_eq.2 (by omega)
        have b6 : decide (1 ≤ y) = true := decide_eq_true (by omega)
        have b7 : decide (y ≤ 3) = true := decide_eq_true (by omega)
        rcases (show (x < 0) ∨ (65535 < x) ∨ (0 ≤ x ∧ x ≤ 65535) by omega) with xx | xx | xx
        · have e1 : decide (x < 0) = true := decide_eq_true (by omega)
          have H9 := Lib.hid (HN.out (HO.out (by omega)))
          clear ee xx
          go_wp2_with fail
          go_ret
          exact ⟨by rw [HV.out, H9.out]; rfl, HS.out.below⟩
        · have e1 : decide (x < 0) = false := decide_eq_false (by omega)
          have e2 : decide (65535 < x) = true := decide_eq_true (by omega)
          have H9 := Lib.hid (HN.out (HO.out (by omega)))
          clear ee xx
          go_wp2_with fail
          go_ret
          exact ⟨by rw [HV.out, H9.out]; rfl, HS.out.below⟩
        · have e1 : decide (x < 0) = false := decide_eq_false (by omega)
          have e2 : decide (65535 < x) = false := decide_eq_false (by omega)
          have H9 := Lib.hid (HG.out (HY.out (by omega) (by omega)))
          clear ee xx
          go_wp2_with fail
          go_roundw
          case rel => exact ⟨i + 1, by omega, by go_num, H9.out, HS.out.take 1⟩
          case measure => simp [intOf]; omega
      · have b1 : (k == 1) = false := beq_eq_false_iff_ne.2 (by omega)
        have b5 : (k == 2) = false := beq_eq_false_iff_ne.2 (by omega)
        rcases (show (x < 0) ∨ (65535 < x) ∨ (0 ≤ x ∧ x ≤ 65535) by omega) with xx | xx | xx
        · have e1 : decide (x < 0) = true := decide_eq_true (by omega)
          have H9 := Lib.hid (HN.out (HO.out (by omega)))
          clear ee xx
          go_wp2_with fail
          go_ret
          exact ⟨by rw [HV.out, H9.out]; rfl, HS.out.below⟩
        · have e1 : decide (x < 0) = false := decide_eq_false (by omega)
          have e2 : decide (65535 < x) = true := decide_eq_true (by omega)
          have H9 := Lib.hid (HN.out (HO.out (by omega)))
          clear ee xx
          go_wp2_with fail
          go_ret
          exact ⟨by rw [HV.out, H9.out]; rfl, HS.out.below⟩
        · have e1 : decide (x < 0) = false := decide_eq_false (by omega)
          have e2 : decide (65535 < x) = false := decide_eq_false (by omega)
          have H9 := Lib.hid (HN.out (HO.out (by omega)))
          clear ee xx
          go_wp2_with fail
          go_ret
          exact ⟨by rw [HV.out, H9.out]; rfl, HS.out.below⟩
    obtain rfl : i = n4 := by omega
    have z1 : decide ((i : Int) < (i : Int)) = false := decide_eq_false (by omega)
    have H9 := Lib.hid (show t.ft.all mayF = true by have := HD.out; rw [List.take_of_length_le (by omega)] at this; exact this)
    go_wp2_with fail
    go_ret
    exact ⟨by rw [HV.out, H9.out]; rfl, hst.below⟩)
end Go.Proofs.YtlceanlenekanaaDoor
