/-
  For every two records TraceTells answers true, and changes nothing: the text of a record of at most 40 entries a list is what the document says, and is read again; two have the same text just if they may be and are the same. Condition: the tables that the row lists hold what the program's text lays in them.
-/
import Derived.Test.YtlceanlenekanaaDoorRows
import Derived.Test.YtlceanlenekanaaDoorFr
import Derived.Test.YtlceanlenekanaaDoorFrL
import Derived.Test.YtlceanlenekanaaDoorCards
import Derived.Test.YtlceanlenekanaaDoorTie
import Derived.SevenTiedAt
import Derived.Test.YtlceanlenekanaaDoorTraT
import Derived.Test.YtlceanlenekanaaDoorOpS
import Derived.Deep.RegionHeld3
namespace Go.Proofs.YtlceanlenekanaaDoor.traceTells
open Go.ChangeShapes Go.WideShapes Go.ChangeAt Go.RowKit
set_option linter.unusedVariables false
theorem own : ownKnob Tryd.prog.godebug = none := by kernel_rfl
theorem laid : laidOutB Tryd.prog = true := by kernel_rfl
set_option maxHeartbeats 4000000
set_option maxRecDepth 100000
theorem and15 {a b c d e f g h i j k l m n p : Prop} (x : a ∧ b ∧ c ∧ d ∧ e) (y : f ∧ g ∧ h ∧ i ∧ j) (z : k ∧ l ∧ m ∧ n ∧ p) : a ∧ b ∧ c ∧ d ∧ e ∧ f ∧ g ∧ h ∧ i ∧ j ∧ k ∧ l ∧ m ∧ n ∧ p :=
  ⟨x.1, x.2.1, x.2.2.1, x.2.2.2.1, x.2.2.2.2, y.1, y.2.1, y.2.2.1, y.2.2.2.1, y.2.2.2.2, z⟩
theorem txO_len {t : Tk} {n1 n2 n3 n4 : Nat} (hm : mayT t = true) (h : TkN t n1 n2 n3 n4) (k1 : n1 ≤ 40) (k2 : n2 ≤ 40) (k3 : n3 ≤ 40) (k4 : n4 ≤ 40) : (txO t).length ≤ 100000 := by
  obtain ⟨h1, h2, h3, h4⟩ := h
  obtain ⟨m1, m2, m3, m4, m5⟩ := mayT_parts hm
  rw [show txO t = txB t from if_pos hm]
  have b1 : ∀ (m : UInt8) (x : Int), 0 ≤ x → x ≤ 2147483647 → (mkB m x).length ≤ 11 := fun m x h0 hx => by
    have := digs_max 9 x.toNat (by omega)
    show (digs x.toNat).length + 1 ≤ 11
    omega
  have b2 : ∀ (m : UInt8) (l : List Int), (∀ x ∈ l, 0 ≤ x ∧ x ≤ 2147483647) → (eachB m l).length ≤ 11 * l.length := fun m l => by
    induction l with
    | nil => intro _; exact Nat.le_refl _
    | cons x l ih =>
      intro hx
      have i1 := ih fun y hy => hx y (List.mem_cons_of_mem _ hy)
      have i2 := b1 m x (hx x List.mem_cons_self).1 (hx x List.mem_cons_self).2
      unfold eachB at i1 ⊢
      rw [List.flatMap_cons, List.length_append, List.length_cons]
      omega
  have b3 : ∀ l : List (Int × Int × Int), (∀ f ∈ l, mayF f = true) → (l.flatMap ftB).length ≤ 22 * l.length := fun l => by
    induction l with
    | nil => intro _; exact Nat.le_refl _
    | cons f l ih =>
      intro hf
      have i1 := ih fun y hy => hf y (List.mem_cons_of_mem _ hy)
      have hm := hf f List.mem_cons_self
      unfold mayF at hm
      simp only [Bool.and_eq_true, Bool.or_eq_true, decide_eq_true_eq] at hm
      have i2 := b1 61 f.1 (by omega) (by omega)
      have i3 := b1 (if f.2.1 = 1 then 100 else 97) f.2.2 (by omega) (by omega)
      rw [List.flatMap_cons, List.length_append, List.length_cons]
      have : (ftB f).length ≤ 22 := by unfold ftB; rw [List.length_append]; omega
      omega
  have r1 := b2 43 t.dn fun x hx => by have := rsI_in _ _ (by omega) m3 x hx; omega
  have r2 := b2 47 t.ct fun x hx => by have := rsI_in _ _ (by omega) m4 x hx; omega
  have r3 := b2 33 t.ms fun x hx => by have := rsI_in _ _ (by omega) m5 x hx; omega
  have r4 := b3 t.ft m1
  have r5 : (whoB t.who).length ≤ 11 := by
    rcases mayW_in m2 with h | h | h
    · rw [h]; decide
    · unfold whoB; rw [if_neg (by omega), if_pos h.1]; exact b1 _ _ (by omega) (by omega)
    · unfold whoB; rw [if_pos h.1]; exact b1 _ _ (by omega) (by omega)
  unfold txB
  rw [List.length_append, List.length_append, List.length_append, List.length_append]
  omega
theorem walk (t u : Tk) (A1 A2 A3 A4 B1 B2 B3 B4 : Option Addr) (n1 n2 n3 n4 m1 m2 m3 m4 c1 c2 c3 c4 d1 d2 d3 d4 : Nat) (W : World) (hT : TabB W.heap.size W) (hN : TkN t n1 n2 n3 n4) (hM : TkN u m1 m2 m3 m4) (a1 : RdI W A1 t.dn) (a2 : RdI W A2 t.ct) (a3 : RdI W A3 t.ms) (a4 : RdF W A4 t.ft) (b1 : RdI W B1 u.dn) (b2 : RdI W B2 u.ct) (b3 : RdI W B3 u.ms) (b4 : RdF W B4 u.ft)
    (hw : -9223372036854775808 ≤ t.who ∧ t.who ≤ 9223372036854775807) (hv : -9223372036854775808 ≤ u.who ∧ u.who ≤ 9223372036854775807) :
    Calls Tryd.prog 3 #[.agg #[.int .i64 t.who, .slice A1 n1 c1, .slice A2 n2 c2, .slice A3 n3 c3, .slice A4 n4 c4], .agg #[.int .i64 u.who, .slice B1 m1 d1, .slice B2 m2 d2, .slice B3 m3 d3, .slice B4 m4 d4]] W fun e W' => e = .returned (.bool true) ∧ Below W.heap.size W W' := by
  obtain ⟨a, ha⟩ : ∃ a, W.heap.size = a := ⟨_, rfl⟩
  have s0 := (St.begin W).box 27 #[.int .i64 t.who, .slice A1 n1 c1, .slice A2 n2 c2, .slice A3 n3 c3, .slice A4 n4 c4]
  rw [ha] at s0
  have s1 := s0.box 27 #[.int .i64 u.who, .slice B1 m1 d1, .slice B2 m2 d2, .slice B3 m3 d3, .slice B4 m4 d4]
  rw [show (W.alloc (.cells #[.int .i64 t.who, .slice A1 n1 c1, .slice A2 n2 c2, .slice A3 n3 c3, .slice A4 n4 c4] 27)).heap.size = a + 1 by simp [ha]] at s1
  have HT := Lib.hid (fun (w' : World) (hb : Below W.heap.size W w') => tab_up (TabB.at_ hT (Nat.le_refl _) hb) hb.size)
  have KA := Lib.hid (awake_c _ (HT.out _ s1.below))
  have HB := Lib.hid s1
  have KS1 := Lib.hid (fun (w : World) => small25_o t.who A1 A2 A3 A4 n1 n2 n3 n4 c1 c2 c3 c4 w)
  have KS2 := Lib.hid (fun (w : World) => small25_o u.who B1 B2 B3 B4 m1 m2 m3 m4 d1 d2 d3 d4 w)
  clear s0 s1 hT
  cases hs1 : smallN n1 n2 n3 n4 with
  | false =>
    rw [hs1] at KS1
    clear hs1
    go_enter Tryd.func3, Tryd.ntmps3
    go_wp2_with (first | (have HX := S1.out.below; go_at_call 7; refine (KS1.out _).mono ?_; clear HX; rintro e w2 ⟨rfl, hb2⟩; have S2 := Lib.hid (S1.out.stay hb2); clear hb2; obtain ⟨p0, p1, p2, p3, p4⟩ := (S2.out.blk 0 rfl).five5; obtain ⟨r0, r1, r2, r3, r4⟩ := (S2.out.blk 1 rfl).five5) | (go_at_call 6; refine KA.out.mono ?_; rintro e w1 ⟨rfl, hb1⟩; have S1 := Lib.hid (HB.out.stay hb1); clear hb1; obtain ⟨p0, p1, p2, p3, p4⟩ := (S1.out.blk 0 rfl).five5; obtain ⟨r0, r1, r2, r3, r4⟩ := (S1.out.blk 1 rfl).five5) | fail)
    go_ret
    exact ⟨rfl, S2.out.below⟩
  | true =>
  cases hs2 : smallN m1 m2 m3 m4 with
  | false =>
    rw [hs1] at KS1
    rw [hs2] at KS2
    clear hs1 hs2
    go_enter Tryd.func3, Tryd.ntmps3
    go_wp2_with (first | (have HX := S2.out.below; go_at_call 7; refine (KS2.out _).mono ?_; clear HX; rintro e w3 ⟨rfl, hb3⟩; have S3 := Lib.hid (S2.out.stay hb3); clear hb3; obtain ⟨p0, p1, p2, p3, p4⟩ := (S3.out.blk 0 rfl).five5; obtain ⟨r0, r1, r2, r3, r4⟩ := (S3.out.blk 1 rfl).five5) | (have HX := S1.out.below; go_at_call 7; refine (KS1.out _).mono ?_; clear HX; rintro e w2 ⟨rfl, hb2⟩; have S2 := Lib.hid (S1.out.stay hb2); clear hb2; obtain ⟨p0, p1, p2, p3, p4⟩ := (S2.out.blk 0 rfl).five5; obtain ⟨r0, r1, r2, r3, r4⟩ := (S2.out.blk 1 rfl).five5) | (go_at_call 6; refine KA.out.mono ?_; rintro e w1 ⟨rfl, hb1⟩; have S1 := Lib.hid (HB.out.stay hb1); clear hb1; obtain ⟨p0, p1, p2, p3, p4⟩ := (S1.out.blk 0 rfl).five5; obtain ⟨r0, r1, r2, r3, r4⟩ := (S1.out.blk 1 rfl).five5) | fail)
    go_ret
    exact ⟨rfl, S3.out.below⟩
  | true =>
  have hq1 := hs1
  have hq2 := hs2
  unfold smallN at hq1 hq2
  simp only [Bool.and_eq_true, decide_eq_true_eq] at hq1 hq2
  obtain ⟨⟨⟨k1, k2⟩, k3⟩, k4⟩ := hq1
  obtain ⟨⟨⟨j1, j2⟩, j3⟩, j4⟩ := hq2
  have At : (Rec.mk t A1 A2 A3 A4 n1 n2 n3 n4 c1 c2 c3 c4).At W := ⟨hN.1, hN.2.1, hN.2.2.1, hN.2.2.2, by dsimp only; omega, by dsimp only; omega, by dsimp only; omega, by dsimp only; omega, a1, a2, a3, a4⟩
  have Au : (Rec.mk u B1 B2 B3 B4 m1 m2 m3 m4 d1 d2 d3 d4).At W := ⟨hM.1, hM.2.1, hM.2.2.1, hM.2.2.2, by dsimp only; omega, by dsimp only; omega, by dsimp only; omega, by dsimp only; omega, b1, b2, b3, b4⟩
  rw [hs1] at KS1
  rw [hs2] at KS2
  have K1 := Lib.hid (fun (w : World) (h : Below W.heap.size W w) => ttext_o _ w (At.on h) hw (HT.out w h))
  have K2 := Lib.hid (fun (w : World) (h : Below W.heap.size W w) => rtext25_o _ w (At.on h))
  have K3 := Lib.hid (fun (w : World) (h : Below W.heap.size W w) => tmay_o _ w (At.on h))
  have K4 := Lib.hid (fun (w : World) (h : Below W.heap.size W w) => rmay25_o _ w (At.on h))
  have K5 := Lib.hid (fun (w : World) (h : Below W.heap.size W w) => ttext_o _ w (Au.on h) hv (HT.out w h))
  have K6 := Lib.hid (fun (w : World) (h : Below W.heap.size W w) => rmay25_o _ w (Au.on h))
  have KE2 := Lib.hid (fun (w : World) (h : Below W.heap.size W w) => same25_o t u A1 A2 A3 A4 B1 B2 B3 B4 n1 n2 n3 n4 c1 c2 c3 c4 m1 m2 m3 m4 d1 d2 d3 d4 w (At.on h) (Au.on h))
  have HAt := Lib.hid At
  unfold stV Rec.cells at K1 K2 K5
  unfold Rec.cells at K3 K4 K6
  dsimp only at K1 K2 K3 K4 K5 K6
  clear hs1 hs2 At Au a1 a2 a3 a4 b1 b2 b3 b4 hw hv hM
  cases hm : mayT t with
  | false =>
    rw [hm] at K3 K4
    have ht : txO t = [] := if_neg (by rw [hm]; exact Bool.false_ne_true)
    rw [ht] at K1 K2
    clear hm ht
    go_enter Tryd.func3, Tryd.ntmps3
    go_wp2_with (first | (have HX := S3.out.below; go_at_call 8; refine (K1.out _ HX).mono ?_; clear HX; rintro e w4 ⟨rfl, hb4⟩; have S4 := Lib.hid (S3.out.stay hb4); clear hb4; obtain ⟨p0, p1, p2, p3, p4⟩ := (S4.out.blk 0 rfl).five5; obtain ⟨r0, r1, r2, r3, r4⟩ := (S4.out.blk 1 rfl).five5) | (have HX := S2.out.below; go_at_call 7; refine (KS2.out _).mono ?_; clear HX; rintro e w3 ⟨rfl, hb3⟩; have S3 := Lib.hid (S2.out.stay hb3); clear hb3; obtain ⟨p0, p1, p2, p3, p4⟩ := (S3.out.blk 0 rfl).five5; obtain ⟨r0, r1, r2, r3, r4⟩ := (S3.out.blk 1 rfl).five5) | (have HX := S1.out.below; go_at_call 7; refine (KS1.out _).mono ?_; clear HX; rintro e w2 ⟨rfl, hb2⟩; have S2 := Lib.hid (S1.out.stay hb2); clear hb2; obtain ⟨p0, p1, p2, p3, p4⟩ := (S2.out.blk 0 rfl).five5; obtain ⟨r0, r1, r2, r3, r4⟩ := (S2.out.blk 1 rfl).five5) | (go_at_call 6; refine KA.out.mono ?_; rintro e w1 ⟨rfl, hb1⟩; have S1 := Lib.hid (HB.out.stay hb1); clear hb1; obtain ⟨p0, p1, p2, p3, p4⟩ := (S1.out.blk 0 rfl).five5; obtain ⟨r0, r1, r2, r3, r4⟩ := (S1.out.blk 1 rfl).five5) | fail)
    go_region_held3 (fun V => V.cell? ⟨a, 0, none⟩ = some (.int .i64 t.who) ∧ V.cell? ⟨a, 1, none⟩ = some (.slice A1 n1 c1) ∧ V.cell? ⟨a, 2, none⟩ = some (.slice A2 n2 c2) ∧ V.cell? ⟨a, 3, none⟩ = some (.slice A3 n3 c3) ∧ V.cell? ⟨a, 4, none⟩ = some (.slice A4 n4 c4)) (go_keep)
      (first
        | (go_at_call 9; refine (K2.out _ S4.out.drew.below).mono ?_; rintro e w5 ⟨rfl, hb5⟩; have s5 := (S4.out.drew).stay hb5; have q5 := (s5.blk 0 rfl).five5; have S5 := Lib.hid s5; clear hb5 s5)
        | (go_at_call 10; refine (K3.out _ S5.out.below).mono ?_; rintro e w6 ⟨rfl, hb6⟩; have s6 := S5.out.stay hb6; have q6 := (s6.blk 0 rfl).five5; have S6 := Lib.hid s6; clear hb6 s6)
        | (go_at_call 11; refine (K4.out _ S6.out.below).mono ?_; rintro e w7 ⟨rfl, hb7⟩; have s7 := S6.out.stay hb7; have q7 := (s7.blk 0 rfl).five5; have S7 := Lib.hid s7; clear hb7 s7))
    all_goals
      obtain ⟨p0, p1, p2, p3, p4⟩ := (S7.out.blk 0 rfl).five5
      go_wp2_with (go_at_call 11; refine (K4.out _ S7.out.below).mono ?_; rintro e w8 ⟨rfl, hb8⟩; have S8 := Lib.hid (S7.out.stay hb8); clear hb8)
      go_ret
      exact ⟨rfl, S8.out.below⟩
  | true =>
  rw [hm] at K3 K4
  have hlen := txO_len hm hN (by omega) (by omega) (by omega) (by omega)
  have hp := (prB_iff (txO t) t).2 ⟨hm, (if_pos hm : txO t = txB t).symm⟩
  have KP := Lib.hid (fun (w : World) (h : Below W.heap.size W w) => parse25_some hlen hp hN w (HT.out w h))
  have HE : (txO u = txO t) ↔ (mayT u = true ∧ t = u) := by
    constructor
    · intro e
      have hu := txO_ne (t := u) (by rw [e, show txO t = txB t from if_pos hm]; exact txB_ne t)
      have ex : txO t = txB t := if_pos hm
      have ey : txO u = txB u := if_pos hu
      exact ⟨hu, txB_inj hm hu (by rw [← ex, ← ey, e])⟩
    · rintro ⟨_, rfl⟩; rfl
  obtain ⟨s, hs⟩ : ∃ s, txO t = s := ⟨_, rfl⟩
  rw [hs] at K1 K2 KP HE
  obtain ⟨v, hvv⟩ : ∃ v, txO u = v := ⟨_, rfl⟩
  rw [hvv] at K5 HE
  have y1 : (s == s) = true := beq_self_eq_true s
  have y2 : (s != s) = false := by simp
  have HKK := Lib.hid (And.intro hN (show n1 ≤ 100000 ∧ n2 ≤ 100000 ∧ n3 ≤ 100000 ∧ n4 ≤ 100000 from ⟨by omega, by omega, by omega, by omega⟩))
  clear hm hp hs hvv hlen hN
  cases hmu : mayT u with
  | false =>
    have hne : v ≠ s := fun e => by have := (HE.1 e).1; rw [hmu] at this; cases this
    have y3 : (v == s) = false := beq_eq_false_iff_ne.2 hne
    rw [hmu] at K6
    clear HE hne hmu
    go_enter Tryd.func3, Tryd.ntmps3
    go_wp2_with (first | (have HX := S3.out.below; go_at_call 8; refine (K1.out _ HX).mono ?_; clear HX; rintro e w4 ⟨rfl, hb4⟩; have S4 := Lib.hid (S3.out.stay hb4); clear hb4; obtain ⟨p0, p1, p2, p3, p4⟩ := (S4.out.blk 0 rfl).five5; obtain ⟨r0, r1, r2, r3, r4⟩ := (S4.out.blk 1 rfl).five5) | (have HX := S2.out.below; go_at_call 7; refine (KS2.out _).mono ?_; clear HX; rintro e w3 ⟨rfl, hb3⟩; have S3 := Lib.hid (S2.out.stay hb3); clear hb3; obtain ⟨p0, p1, p2, p3, p4⟩ := (S3.out.blk 0 rfl).five5; obtain ⟨r0, r1, r2, r3, r4⟩ := (S3.out.blk 1 rfl).five5) | (have HX := S1.out.below; go_at_call 7; refine (KS1.out _).mono ?_; clear HX; rintro e w2 ⟨rfl, hb2⟩; have S2 := Lib.hid (S1.out.stay hb2); clear hb2; obtain ⟨p0, p1, p2, p3, p4⟩ := (S2.out.blk 0 rfl).five5; obtain ⟨r0, r1, r2, r3, r4⟩ := (S2.out.blk 1 rfl).five5) | (go_at_call 6; refine KA.out.mono ?_; rintro e w1 ⟨rfl, hb1⟩; have S1 := Lib.hid (HB.out.stay hb1); clear hb1; obtain ⟨p0, p1, p2, p3, p4⟩ := (S1.out.blk 0 rfl).five5; obtain ⟨r0, r1, r2, r3, r4⟩ := (S1.out.blk 1 rfl).five5) | fail)
    go_region_held3 (fun V => V.cell? ⟨a, 0, none⟩ = some (.int .i64 t.who) ∧ V.cell? ⟨a, 1, none⟩ = some (.slice A1 n1 c1) ∧ V.cell? ⟨a, 2, none⟩ = some (.slice A2 n2 c2) ∧ V.cell? ⟨a, 3, none⟩ = some (.slice A3 n3 c3) ∧ V.cell? ⟨a, 4, none⟩ = some (.slice A4 n4 c4)) (go_keep)
      (first
        | (go_at_call 9; refine (K2.out _ S4.out.drew.below).mono ?_; rintro e w5 ⟨rfl, hb5⟩; have s5 := (S4.out.drew).stay hb5; have q5 := (s5.blk 0 rfl).five5; have S5 := Lib.hid s5; clear hb5 s5)
        | (go_at_call 10; refine (K3.out _ S5.out.below).mono ?_; rintro e w6 ⟨rfl, hb6⟩; have s6 := S5.out.stay hb6; have q6 := (s6.blk 0 rfl).five5; have S6 := Lib.hid s6; clear hb6 s6)
        | (go_at_call 11; refine (K4.out _ S6.out.below).mono ?_; rintro e w7 ⟨rfl, hb7⟩; have s7 := S6.out.stay hb7; have q7 := (s7.blk 0 rfl).five5; have S7 := Lib.hid s7; clear hb7 s7))
    all_goals
      obtain ⟨p0, p1, p2, p3, p4⟩ := (S7.out.blk 0 rfl).five5
      go_wp2_with (go_at_call 11; refine (K4.out _ S7.out.below).mono ?_; rintro e w8 ⟨rfl, hb8⟩; have S8 := Lib.hid (S7.out.stay hb8); clear hb8)
      refine (KP.out _ S8.out.below).mono ?_
      rintro e w9 ⟨E1, E2, E3, E4, e1, e2, e3, e4, rfl, k9⟩
      obtain ⟨x, hx⟩ : ∃ x, w9.heap.size = x := ⟨_, rfl⟩
      have s9 := (S8.out.join k9).box 27 #[.int .i64 t.who, .slice E1 n1 e1, .slice E2 n2 e2, .slice E3 n3 e3, .slice E4 n4 e4]
      rw [hx] at s9
      have KE1 := Lib.hid (fun (w : World) (h : Below W.heap.size W w) (hr : (Rec.mk t E1 E2 E3 E4 n1 n2 n3 n4 e1 e2 e3 e4).At w) => same25_o t t E1 E2 E3 E4 A1 A2 A3 A4 n1 n2 n3 n4 e1 e2 e3 e4 n1 n2 n3 n4 c1 c2 c3 c4 w hr (HAt.out.on h))
      rw [(sameT_iff t t).2 rfl] at KE1
      have S9 := Lib.hid s9
      clear s9 k9
      obtain ⟨p0, p1, p2, p3, p4⟩ := (S9.out.blk 0 rfl).five5
      obtain ⟨r0, r1, r2, r3, r4⟩ := (S9.out.blk 1 rfl).five5
      obtain ⟨x0, x1, x2, x3, x4⟩ := (S9.out.blk 6 rfl).five5
      go_wp2_with fail
      refine wp_region_held_drew (S := (fun V => V.cell? ⟨a, 0, none⟩ = some (.int .i64 t.who) ∧ V.cell? ⟨a, 1, none⟩ = some (.slice A1 n1 c1) ∧ V.cell? ⟨a, 2, none⟩ = some (.slice A2 n2 c2) ∧ V.cell? ⟨a, 3, none⟩ = some (.slice A3 n3 c3) ∧ V.cell? ⟨a, 4, none⟩ = some (.slice A4 n4 c4) ∧ V.cell? ⟨a + 1, 0, none⟩ = some (.int .i64 u.who) ∧ V.cell? ⟨a + 1, 1, none⟩ = some (.slice B1 m1 d1) ∧ V.cell? ⟨a + 1, 2, none⟩ = some (.slice B2 m2 d2) ∧ V.cell? ⟨a + 1, 3, none⟩ = some (.slice B3 m3 d3) ∧ V.cell? ⟨a + 1, 4, none⟩ = some (.slice B4 m4 d4) ∧ V.cell? ⟨x, 0, none⟩ = some (.int .i64 t.who) ∧ V.cell? ⟨x, 1, none⟩ = some (.slice E1 n1 e1) ∧ V.cell? ⟨x, 2, none⟩ = some (.slice E2 n2 e2) ∧ V.cell? ⟨x, 3, none⟩ = some (.slice E3 n3 e3) ∧ V.cell? ⟨x, 4, none⟩ = some (.slice E4 n4 e4))) (by kernel_rfl) ?_ (fun hHeld => ?_)
      · (try dsimp only); go_keep
      refine wpAnyH_take (i := 0) (oi := { dst := some 41, op := Op.move (Operand.tmp 7), type := 31, pos := "law.go:79", after := #[], guard := none }) (v := ?_) rfl (by kernel_rfl) (by kernel_rfl) (by kernel_rfl) (fun _ _ _ h => h) (Or.inl ⟨by rfl, ?_⟩) hHeld ?_
      rotate_left
      · intro wz hSw; (try dsimp only at hSw); go_simp; try (with_reducible rfl)
      try simp only [Act.put, List.setIfInBounds_toArray, List.set_cons_zero, List.set_cons_succ]
      refine wpAnyH_take (i := 1) (oi := { dst := some 42, op := Op.binOp BinOp.eql 31 (Operand.tmp 41) (Operand.const (Value.int IntKind.i64 0)) 31, type := 4, pos := "law.go:79", after := #[{ on := 0, ground := Ground.data }], guard := none }) (v := ?_) rfl (by kernel_rfl) (by kernel_rfl) (by kernel_rfl) (fun _ _ _ h => h) (Or.inl ⟨by rfl, ?_⟩) hHeld ?_
      rotate_left
      · intro wz hSw; (try dsimp only at hSw); go_simp; try (with_reducible rfl)
      try simp only [Act.put, List.setIfInBounds_toArray, List.set_cons_zero, List.set_cons_succ]
      refine wpAnyH_take (i := 2) (oi := { dst := some 43, op := Op.move (Operand.tmp 42), type := 4, pos := "law.go:79", after := #[{ on := 1, ground := Ground.data }], guard := none }) (v := ?_) rfl (by kernel_rfl) (by kernel_rfl) (by kernel_rfl) (fun _ _ _ h => h) (Or.inl ⟨by rfl, ?_⟩) hHeld ?_
      rotate_left
      · intro wz hSw; (try dsimp only at hSw); go_simp; try (with_reducible rfl)
      try simp only [Act.put, List.setIfInBounds_toArray, List.set_cons_zero, List.set_cons_succ]
      refine wpAnyH_take (i := 3) (oi := { dst := some 44, op := Op.load 27 (Operand.tmp 6), type := 27, pos := "law.go:79", after := #[{ on := 2, ground := Ground.guard }], guard := some (2, true) }) (v := ?_) rfl (by kernel_rfl) (by kernel_rfl) (by kernel_rfl) (fun _ _ _ h => h) (Or.inl ⟨by rfl, ?_⟩) hHeld ?_
      rotate_left
      · intro wz hSw; (try dsimp only at hSw); go_simp; try (with_reducible rfl)
      try simp only [Act.put, List.setIfInBounds_toArray, List.set_cons_zero, List.set_cons_succ]
      refine wpAnyH_take (i := 4) (oi := { dst := some 45, op := Op.load 27 (Operand.tmp 2), type := 27, pos := "law.go:79", after := #[{ on := 2, ground := Ground.guard }], guard := some (2, true) }) (v := ?_) rfl (by kernel_rfl) (by kernel_rfl) (by kernel_rfl) (fun _ _ _ h => h) (Or.inl ⟨by rfl, ?_⟩) hHeld ?_
      rotate_left
      · intro wz hSw; (try dsimp only at hSw); go_simp; try (with_reducible rfl)
      try simp only [Act.put, List.setIfInBounds_toArray, List.set_cons_zero, List.set_cons_succ]
      refine wpAnyH_ready (rs := [5]) (by kernel_rfl) (by simp) ?_
      refine AllReadyH.cons (o := { dst := some 46, op := Op.call { callee := Callee.value (Operand.func 13), args := #[Operand.tmp 44, Operand.tmp 45], argTypes := #[27, 27] }, type := 4, pos := "law.go:79", after := #[{ on := 3, ground := Ground.data }, { on := 4, ground := Ground.data }, { on := 2, ground := Ground.chain }, { on := 2, ground := Ground.guard }], guard := some (2, true) }) rfl (fun K hK => ?_) AllReadyH.nil
      go_simp
      refine (KE1.out _ S9.out.drew.below (S9.out.drew.recAt 2 rfl rfl rfl rfl HKK.out.1 HKK.out.2)).mono ?_
      rintro e wa ⟨rfl, hbx⟩
      have sx := (S9.out.drew).stay hbx
      have qx := and15 (sx.blk 0 rfl).five5 (sx.blk 1 rfl).five5 (sx.blk 6 rfl).five5
      have SA := Lib.hid sx
      clear hbx sx
      go_wp2_with fail
      refine hK.out _ _ ?_ (fun hHeld => ?_)
      · exact qx
      clear hK K
      try simp only [Act.put, List.setIfInBounds_toArray, List.set_cons_zero, List.set_cons_succ]
      refine wpAnyH_take (i := 6) (oi := { dst := some 47, op := Op.pick (Operand.tmp 43) (Operand.tmp 46) (Operand.const (Value.bool false)), type := 4, pos := "law.go:79", after := #[{ on := 2, ground := Ground.data }, { on := 5, ground := Ground.data }], guard := none }) (v := ?_) rfl (by kernel_rfl) (by kernel_rfl) (by kernel_rfl) (fun _ _ _ h => h) (Or.inl ⟨by rfl, ?_⟩) hHeld ?_
      rotate_left
      · intro wz hSw; (try dsimp only at hSw); go_simp; try (with_reducible rfl)
      try simp only [Act.put, List.setIfInBounds_toArray, List.set_cons_zero, List.set_cons_succ]
      refine wpAnyH_take (i := 7) (oi := { dst := some 48, op := Op.move (Operand.tmp 47), type := 4, pos := "law.go:79", after := #[{ on := 6, ground := Ground.data }, { on := 5, ground := Ground.chain }], guard := none }) (v := ?_) rfl (by kernel_rfl) (by kernel_rfl) (by kernel_rfl) (fun _ _ _ h => h) (Or.inl ⟨by rfl, ?_⟩) hHeld ?_
      rotate_left
      · intro wz hSw; (try dsimp only at hSw); go_simp; try (with_reducible rfl)
      try simp only [Act.put, List.setIfInBounds_toArray, List.set_cons_zero, List.set_cons_succ]
      refine wpAnyH_take (i := 8) (oi := { dst := some 49, op := Op.load 27 (Operand.tmp 3), type := 27, pos := "law.go:79", after := #[{ on := 7, ground := Ground.guard }], guard := some (7, true) }) (v := ?_) rfl (by kernel_rfl) (by kernel_rfl) (by kernel_rfl) (fun _ _ _ h => h) (Or.inl ⟨by rfl, ?_⟩) hHeld ?_
      rotate_left
      · intro wz hSw; (try dsimp only at hSw); go_simp; try (with_reducible rfl)
      try simp only [Act.put, List.setIfInBounds_toArray, List.set_cons_zero, List.set_cons_succ]
      refine wpAnyH_take (i := 10) (oi := { dst := some 51, op := Op.move (Operand.tmp 5), type := 9, pos := "law.go:79", after := #[{ on := 7, ground := Ground.guard }], guard := some (7, true) }) (v := ?_) rfl (by kernel_rfl) (by kernel_rfl) (by kernel_rfl) (fun _ _ _ h => h) (Or.inl ⟨by rfl, ?_⟩) hHeld ?_
      rotate_left
      · intro wz hSw; (try dsimp only at hSw); go_simp; try (with_reducible rfl)
      try simp only [Act.put, List.setIfInBounds_toArray, List.set_cons_zero, List.set_cons_succ]
      refine wpAnyH_take (i := 12) (oi := { dst := some 53, op := Op.load 27 (Operand.tmp 3), type := 27, pos := "law.go:79", after := #[{ on := 7, ground := Ground.guard }], guard := some (7, true) }) (v := ?_) rfl (by kernel_rfl) (by kernel_rfl) (by kernel_rfl) (fun _ _ _ h => h) (Or.inl ⟨by rfl, ?_⟩) hHeld ?_
      rotate_left
      · intro wz hSw; (try dsimp only at hSw); go_simp; try (with_reducible rfl)
      try simp only [Act.put, List.setIfInBounds_toArray, List.set_cons_zero, List.set_cons_succ]
      refine wpAnyH_ready (rs := [9]) (by kernel_rfl) (by simp) ?_
      refine AllReadyH.cons (o := { dst := some 50, op := Op.call { callee := Callee.value (Operand.func 8), args := #[Operand.tmp 49], argTypes := #[27] }, type := 9, pos := "law.go:79", after := #[{ on := 8, ground := Ground.data }, { on := 7, ground := Ground.chain }, { on := 7, ground := Ground.guard }], guard := some (7, true) }) rfl (fun K hK => ?_) AllReadyH.nil
      go_simp
      refine (K5.out _ SA.out.below).mono ?_
      rintro e wb ⟨rfl, hbx⟩
      have sx := (SA.out).stay hbx
      have qx := and15 (sx.blk 0 rfl).five5 (sx.blk 1 rfl).five5 (sx.blk 6 rfl).five5
      have SB := Lib.hid sx
      clear hbx sx
      go_wp2_with fail
      refine hK.out _ _ ?_ (fun hHeld => ?_)
      · exact qx
      clear hK K
      try simp only [Act.put, List.setIfInBounds_toArray, List.set_cons_zero, List.set_cons_succ]
      refine wpAnyH_take (i := 11) (oi := { dst := some 52, op := Op.binOp BinOp.eql 9 (Operand.tmp 50) (Operand.tmp 51) 9, type := 4, pos := "law.go:79", after := #[{ on := 9, ground := Ground.data }, { on := 10, ground := Ground.data }, { on := 7, ground := Ground.guard }], guard := some (7, true) }) (v := ?_) rfl (by kernel_rfl) (by kernel_rfl) (by kernel_rfl) (fun _ _ _ h => h) (Or.inl ⟨by rfl, ?_⟩) hHeld ?_
      rotate_left
      · intro wz hSw; (try dsimp only at hSw); go_simp; try (with_reducible rfl)
      try simp only [Act.put, List.setIfInBounds_toArray, List.set_cons_zero, List.set_cons_succ]
      refine wpAnyH_ready (rs := [13]) (by kernel_rfl) (by simp) ?_
      refine AllReadyH.cons (o := { dst := some 54, op := Op.call { callee := Callee.value (Operand.func 11), args := #[Operand.tmp 53], argTypes := #[27] }, type := 4, pos := "law.go:79", after := #[{ on := 12, ground := Ground.data }, { on := 9, ground := Ground.chain }, { on := 7, ground := Ground.guard }], guard := some (7, true) }) rfl (fun K hK => ?_) AllReadyH.nil
      go_simp
      refine (K6.out _ SB.out.below).mono ?_
      rintro e wc ⟨rfl, hbx⟩
      have sx := (SB.out).stay hbx
      have qx := and15 (sx.blk 0 rfl).five5 (sx.blk 1 rfl).five5 (sx.blk 6 rfl).five5
      have SC := Lib.hid sx
      clear hbx sx
      go_wp2_with fail
      refine hK.out _ _ ?_ (fun hHeld => ?_)
      · exact qx
      clear hK K
      try simp only [Act.put, List.setIfInBounds_toArray, List.set_cons_zero, List.set_cons_succ]
      refine wpAnyH_take (i := 14) (oi := { dst := some 55, op := Op.move (Operand.tmp 54), type := 4, pos := "law.go:79", after := #[{ on := 13, ground := Ground.data }, { on := 13, ground := Ground.chain }, { on := 7, ground := Ground.guard }], guard := some (7, true) }) (v := ?_) rfl (by kernel_rfl) (by kernel_rfl) (by kernel_rfl) (fun _ _ _ h => h) (Or.inl ⟨by rfl, ?_⟩) hHeld ?_
      rotate_left
      · intro wz hSw; (try dsimp only at hSw); go_simp; try (with_reducible rfl)
      try simp only [Act.put, List.setIfInBounds_toArray, List.set_cons_zero, List.set_cons_succ]
      refine wpAnyH_take (i := 15) (oi := { dst := some 56, op := Op.load 27 (Operand.tmp 2), type := 27, pos := "law.go:79", after := #[{ on := 14, ground := Ground.guard }], guard := some (14, true) }) (v := undef) rfl (by kernel_rfl) (by kernel_rfl) (by kernel_rfl) (fun _ _ _ h => h) (Or.inr ⟨by rfl, rfl⟩) hHeld ?_
      try simp only [Act.put, List.setIfInBounds_toArray, List.set_cons_zero, List.set_cons_succ]
      refine wpAnyH_take (i := 16) (oi := { dst := some 57, op := Op.load 27 (Operand.tmp 3), type := 27, pos := "law.go:79", after := #[{ on := 14, ground := Ground.guard }], guard := some (14, true) }) (v := undef) rfl (by kernel_rfl) (by kernel_rfl) (by kernel_rfl) (fun _ _ _ h => h) (Or.inr ⟨by rfl, rfl⟩) hHeld ?_
      try simp only [Act.put, List.setIfInBounds_toArray, List.set_cons_zero, List.set_cons_succ]
      refine wpAnyH_take (i := 17) (oi := { dst := some 58, op := Op.call { callee := Callee.value (Operand.func 13), args := #[Operand.tmp 56, Operand.tmp 57], argTypes := #[27, 27] }, type := 4, pos := "law.go:79", after := #[{ on := 15, ground := Ground.data }, { on := 16, ground := Ground.data }, { on := 14, ground := Ground.chain }, { on := 14, ground := Ground.guard }], guard := some (14, true) }) (v := undef) rfl (by kernel_rfl) (by kernel_rfl) (by kernel_rfl) (fun _ _ _ h => h) (Or.inr ⟨by rfl, rfl⟩) hHeld ?_
      try simp only [Act.put, List.setIfInBounds_toArray, List.set_cons_zero, List.set_cons_succ]
      refine wpAnyH_take (i := 18) (oi := { dst := some 59, op := Op.pick (Operand.tmp 55) (Operand.tmp 58) (Operand.const (Value.bool false)), type := 4, pos := "law.go:79", after := #[{ on := 14, ground := Ground.data }, { on := 17, ground := Ground.data }, { on := 7, ground := Ground.guard }], guard := some (7, true) }) (v := ?_) rfl (by kernel_rfl) (by kernel_rfl) (by kernel_rfl) (fun _ _ _ h => h) (Or.inl ⟨by rfl, ?_⟩) hHeld ?_
      rotate_left
      · intro wz hSw; (try dsimp only at hSw); go_simp; try (with_reducible rfl)
      try simp only [Act.put, List.setIfInBounds_toArray, List.set_cons_zero, List.set_cons_succ]
      refine wpAnyH_take (i := 19) (oi := { dst := some 60, op := Op.binOp BinOp.eql 4 (Operand.tmp 52) (Operand.tmp 59) 4, type := 4, pos := "law.go:79", after := #[{ on := 11, ground := Ground.data }, { on := 18, ground := Ground.data }, { on := 7, ground := Ground.guard }], guard := some (7, true) }) (v := ?_) rfl (by kernel_rfl) (by kernel_rfl) (by kernel_rfl) (fun _ _ _ h => h) (Or.inl ⟨by rfl, ?_⟩) hHeld ?_
      rotate_left
      · intro wz hSw; (try dsimp only at hSw); go_simp; try (with_reducible rfl)
      try simp only [Act.put, List.setIfInBounds_toArray, List.set_cons_zero, List.set_cons_succ]
      refine wpAnyH_take (i := 20) (oi := { dst := some 61, op := Op.pick (Operand.tmp 48) (Operand.tmp 60) (Operand.const (Value.bool false)), type := 4, pos := "law.go:79", after := #[{ on := 7, ground := Ground.data }, { on := 19, ground := Ground.data }], guard := none }) (v := ?_) rfl (by kernel_rfl) (by kernel_rfl) (by kernel_rfl) (fun _ _ _ h => h) (Or.inl ⟨by rfl, ?_⟩) hHeld ?_
      rotate_left
      · intro wz hSw; (try dsimp only at hSw); go_simp; try (with_reducible rfl)
      try simp only [Act.put, List.setIfInBounds_toArray, List.set_cons_zero, List.set_cons_succ]
      refine wpAnyH_take (i := 21) (oi := { dst := some 4, op := Op.assign (Operand.tmp 61), type := 4, pos := "law.go:79", after := #[{ on := 20, ground := Ground.data }, { on := 17, ground := Ground.chain }, { on := 0, ground := Ground.phase }, { on := 1, ground := Ground.phase }, { on := 2, ground := Ground.phase }, { on := 3, ground := Ground.phase }, { on := 4, ground := Ground.phase }, { on := 5, ground := Ground.phase }, { on := 6, ground := Ground.phase }, { on := 7, ground := Ground.phase }, { on := 8, ground := Ground.phase }, { on := 9, ground := Ground.phase }, { on := 10, ground := Ground.phase }, { on := 11, ground := Ground.phase }, { on := 12, ground := Ground.phase }, { on := 13, ground := Ground.phase }, { on := 14, ground := Ground.phase }, { on := 15, ground := Ground.phase }, { on := 16, ground := Ground.phase }, { on := 17, ground := Ground.phase }, { on := 18, ground := Ground.phase }, { on := 19, ground := Ground.phase }, { on := 20, ground := Ground.phase }], guard := none }) (v := ?_) rfl (by kernel_rfl) (by kernel_rfl) (by kernel_rfl) (fun _ _ _ h => h) (Or.inl ⟨by rfl, ?_⟩) hHeld ?_
      rotate_left
      · intro wz hSw; (try dsimp only at hSw); go_simp; try (with_reducible rfl)
      try simp only [Act.put, List.setIfInBounds_toArray, List.set_cons_zero, List.set_cons_succ]
      refine wpAnyH_done (by kernel_rfl) ?_ _
      go_wp2_with fail
      go_ret
      exact ⟨rfl, by first | exact SD.out.below | exact SC.out.below⟩
  | true =>
    rw [hmu] at K6
    have hsv : sameT t u = (v == s) := by
      cases e : sameT t u with
      | true => exact (beq_iff_eq.2 (HE.2 ⟨hmu, (sameT_iff t u).1 e⟩)).symm
      | false =>
        refine (beq_eq_false_iff_ne.2 fun h => ?_).symm
        have := (sameT_iff t u).2 (HE.1 h).2
        rw [e] at this; cases this
    rw [hsv] at KE2
    clear HE hsv hmu
    cases y3 : (v == s) <;> (
    rw [y3] at KE2
    go_enter Tryd.func3, Tryd.ntmps3
    go_wp2_with (first | (have HX := S3.out.below; go_at_call 8; refine (K1.out _ HX).mono ?_; clear HX; rintro e w4 ⟨rfl, hb4⟩; have S4 := Lib.hid (S3.out.stay hb4); clear hb4; obtain ⟨p0, p1, p2, p3, p4⟩ := (S4.out.blk 0 rfl).five5; obtain ⟨r0, r1, r2, r3, r4⟩ := (S4.out.blk 1 rfl).five5) | (have HX := S2.out.below; go_at_call 7; refine (KS2.out _).mono ?_; clear HX; rintro e w3 ⟨rfl, hb3⟩; have S3 := Lib.hid (S2.out.stay hb3); clear hb3; obtain ⟨p0, p1, p2, p3, p4⟩ := (S3.out.blk 0 rfl).five5; obtain ⟨r0, r1, r2, r3, r4⟩ := (S3.out.blk 1 rfl).five5) | (have HX := S1.out.below; go_at_call 7; refine (KS1.out _).mono ?_; clear HX; rintro e w2 ⟨rfl, hb2⟩; have S2 := Lib.hid (S1.out.stay hb2); clear hb2; obtain ⟨p0, p1, p2, p3, p4⟩ := (S2.out.blk 0 rfl).five5; obtain ⟨r0, r1, r2, r3, r4⟩ := (S2.out.blk 1 rfl).five5) | (go_at_call 6; refine KA.out.mono ?_; rintro e w1 ⟨rfl, hb1⟩; have S1 := Lib.hid (HB.out.stay hb1); clear hb1; obtain ⟨p0, p1, p2, p3, p4⟩ := (S1.out.blk 0 rfl).five5; obtain ⟨r0, r1, r2, r3, r4⟩ := (S1.out.blk 1 rfl).five5) | fail)
    go_region_held3 (fun V => V.cell? ⟨a, 0, none⟩ = some (.int .i64 t.who) ∧ V.cell? ⟨a, 1, none⟩ = some (.slice A1 n1 c1) ∧ V.cell? ⟨a, 2, none⟩ = some (.slice A2 n2 c2) ∧ V.cell? ⟨a, 3, none⟩ = some (.slice A3 n3 c3) ∧ V.cell? ⟨a, 4, none⟩ = some (.slice A4 n4 c4)) (go_keep)
      (first
        | (go_at_call 9; refine (K2.out _ S4.out.drew.below).mono ?_; rintro e w5 ⟨rfl, hb5⟩; have s5 := (S4.out.drew).stay hb5; have q5 := (s5.blk 0 rfl).five5; have S5 := Lib.hid s5; clear hb5 s5)
        | (go_at_call 10; refine (K3.out _ S5.out.below).mono ?_; rintro e w6 ⟨rfl, hb6⟩; have s6 := S5.out.stay hb6; have q6 := (s6.blk 0 rfl).five5; have S6 := Lib.hid s6; clear hb6 s6)
        | (go_at_call 11; refine (K4.out _ S6.out.below).mono ?_; rintro e w7 ⟨rfl, hb7⟩; have s7 := S6.out.stay hb7; have q7 := (s7.blk 0 rfl).five5; have S7 := Lib.hid s7; clear hb7 s7))
    all_goals
      obtain ⟨p0, p1, p2, p3, p4⟩ := (S7.out.blk 0 rfl).five5
      go_wp2_with (go_at_call 11; refine (K4.out _ S7.out.below).mono ?_; rintro e w8 ⟨rfl, hb8⟩; have S8 := Lib.hid (S7.out.stay hb8); clear hb8)
      refine (KP.out _ S8.out.below).mono ?_
      rintro e w9 ⟨E1, E2, E3, E4, e1, e2, e3, e4, rfl, k9⟩
      obtain ⟨x, hx⟩ : ∃ x, w9.heap.size = x := ⟨_, rfl⟩
      have s9 := (S8.out.join k9).box 27 #[.int .i64 t.who, .slice E1 n1 e1, .slice E2 n2 e2, .slice E3 n3 e3, .slice E4 n4 e4]
      rw [hx] at s9
      have KE1 := Lib.hid (fun (w : World) (h : Below W.heap.size W w) (hr : (Rec.mk t E1 E2 E3 E4 n1 n2 n3 n4 e1 e2 e3 e4).At w) => same25_o t t E1 E2 E3 E4 A1 A2 A3 A4 n1 n2 n3 n4 e1 e2 e3 e4 n1 n2 n3 n4 c1 c2 c3 c4 w hr (HAt.out.on h))
      rw [(sameT_iff t t).2 rfl] at KE1
      have S9 := Lib.hid s9
      clear s9 k9
      obtain ⟨p0, p1, p2, p3, p4⟩ := (S9.out.blk 0 rfl).five5
      obtain ⟨r0, r1, r2, r3, r4⟩ := (S9.out.blk 1 rfl).five5
      obtain ⟨x0, x1, x2, x3, x4⟩ := (S9.out.blk 6 rfl).five5
      go_wp2_with fail
      refine wp_region_held_drew (S := (fun V => V.cell? ⟨a, 0, none⟩ = some (.int .i64 t.who) ∧ V.cell? ⟨a, 1, none⟩ = some (.slice A1 n1 c1) ∧ V.cell? ⟨a, 2, none⟩ = some (.slice A2 n2 c2) ∧ V.cell? ⟨a, 3, none⟩ = some (.slice A3 n3 c3) ∧ V.cell? ⟨a, 4, none⟩ = some (.slice A4 n4 c4) ∧ V.cell? ⟨a + 1, 0, none⟩ = some (.int .i64 u.who) ∧ V.cell? ⟨a + 1, 1, none⟩ = some (.slice B1 m1 d1) ∧ V.cell? ⟨a + 1, 2, none⟩ = some (.slice B2 m2 d2) ∧ V.cell? ⟨a + 1, 3, none⟩ = some (.slice B3 m3 d3) ∧ V.cell? ⟨a + 1, 4, none⟩ = some (.slice B4 m4 d4) ∧ V.cell? ⟨x, 0, none⟩ = some (.int .i64 t.who) ∧ V.cell? ⟨x, 1, none⟩ = some (.slice E1 n1 e1) ∧ V.cell? ⟨x, 2, none⟩ = some (.slice E2 n2 e2) ∧ V.cell? ⟨x, 3, none⟩ = some (.slice E3 n3 e3) ∧ V.cell? ⟨x, 4, none⟩ = some (.slice E4 n4 e4))) (by kernel_rfl) ?_ (fun hHeld => ?_)
      · (try dsimp only); go_keep
      refine wpAnyH_take (i := 0) (oi := { dst := some 41, op := Op.move (Operand.tmp 7), type := 31, pos := "law.go:79", after := #[], guard := none }) (v := ?_) rfl (by kernel_rfl) (by kernel_rfl) (by kernel_rfl) (fun _ _ _ h => h) (Or.inl ⟨by rfl, ?_⟩) hHeld ?_
      rotate_left
      · intro wz hSw; (try dsimp only at hSw); go_simp; try (with_reducible rfl)
      try simp only [Act.put, List.setIfInBounds_toArray, List.set_cons_zero, List.set_cons_succ]
      refine wpAnyH_take (i := 1) (oi := { dst := some 42, op := Op.binOp BinOp.eql 31 (Operand.tmp 41) (Operand.const (Value.int IntKind.i64 0)) 31, type := 4, pos := "law.go:79", after := #[{ on := 0, ground := Ground.data }], guard := none }) (v := ?_) rfl (by kernel_rfl) (by kernel_rfl) (by kernel_rfl) (fun _ _ _ h => h) (Or.inl ⟨by rfl, ?_⟩) hHeld ?_
      rotate_left
      · intro wz hSw; (try dsimp only at hSw); go_simp; try (with_reducible rfl)
      try simp only [Act.put, List.setIfInBounds_toArray, List.set_cons_zero, List.set_cons_succ]
      refine wpAnyH_take (i := 2) (oi := { dst := some 43, op := Op.move (Operand.tmp 42), type := 4, pos := "law.go:79", after := #[{ on := 1, ground := Ground.data }], guard := none }) (v := ?_) rfl (by kernel_rfl) (by kernel_rfl) (by kernel_rfl) (fun _ _ _ h => h) (Or.inl ⟨by rfl, ?_⟩) hHeld ?_
      rotate_left
      · intro wz hSw; (try dsimp only at hSw); go_simp; try (with_reducible rfl)
      try simp only [Act.put, List.setIfInBounds_toArray, List.set_cons_zero, List.set_cons_succ]
      refine wpAnyH_take (i := 3) (oi := { dst := some 44, op := Op.load 27 (Operand.tmp 6), type := 27, pos := "law.go:79", after := #[{ on := 2, ground := Ground.guard }], guard := some (2, true) }) (v := ?_) rfl (by kernel_rfl) (by kernel_rfl) (by kernel_rfl) (fun _ _ _ h => h) (Or.inl ⟨by rfl, ?_⟩) hHeld ?_
      rotate_left
      · intro wz hSw; (try dsimp only at hSw); go_simp; try (with_reducible rfl)
      try simp only [Act.put, List.setIfInBounds_toArray, List.set_cons_zero, List.set_cons_succ]
      refine wpAnyH_take (i := 4) (oi := { dst := some 45, op := Op.load 27 (Operand.tmp 2), type := 27, pos := "law.go:79", after := #[{ on := 2, ground := Ground.guard }], guard := some (2, true) }) (v := ?_) rfl (by kernel_rfl) (by kernel_rfl) (by kernel_rfl) (fun _ _ _ h => h) (Or.inl ⟨by rfl, ?_⟩) hHeld ?_
      rotate_left
      · intro wz hSw; (try dsimp only at hSw); go_simp; try (with_reducible rfl)
      try simp only [Act.put, List.setIfInBounds_toArray, List.set_cons_zero, List.set_cons_succ]
      refine wpAnyH_ready (rs := [5]) (by kernel_rfl) (by simp) ?_
      refine AllReadyH.cons (o := { dst := some 46, op := Op.call { callee := Callee.value (Operand.func 13), args := #[Operand.tmp 44, Operand.tmp 45], argTypes := #[27, 27] }, type := 4, pos := "law.go:79", after := #[{ on := 3, ground := Ground.data }, { on := 4, ground := Ground.data }, { on := 2, ground := Ground.chain }, { on := 2, ground := Ground.guard }], guard := some (2, true) }) rfl (fun K hK => ?_) AllReadyH.nil
      go_simp
      refine (KE1.out _ S9.out.drew.below (S9.out.drew.recAt 2 rfl rfl rfl rfl HKK.out.1 HKK.out.2)).mono ?_
      rintro e wa ⟨rfl, hbx⟩
      have sx := (S9.out.drew).stay hbx
      have qx := and15 (sx.blk 0 rfl).five5 (sx.blk 1 rfl).five5 (sx.blk 6 rfl).five5
      have SA := Lib.hid sx
      clear hbx sx
      go_wp2_with fail
      refine hK.out _ _ ?_ (fun hHeld => ?_)
      · exact qx
      clear hK K
      try simp only [Act.put, List.setIfInBounds_toArray, List.set_cons_zero, List.set_cons_succ]
      refine wpAnyH_take (i := 6) (oi := { dst := some 47, op := Op.pick (Operand.tmp 43) (Operand.tmp 46) (Operand.const (Value.bool false)), type := 4, pos := "law.go:79", after := #[{ on := 2, ground := Ground.data }, { on := 5, ground := Ground.data }], guard := none }) (v := ?_) rfl (by kernel_rfl) (by kernel_rfl) (by kernel_rfl) (fun _ _ _ h => h) (Or.inl ⟨by rfl, ?_⟩) hHeld ?_
      rotate_left
      · intro wz hSw; (try dsimp only at hSw); go_simp; try (with_reducible rfl)
      try simp only [Act.put, List.setIfInBounds_toArray, List.set_cons_zero, List.set_cons_succ]
      refine wpAnyH_take (i := 7) (oi := { dst := some 48, op := Op.move (Operand.tmp 47), type := 4, pos := "law.go:79", after := #[{ on := 6, ground := Ground.data }, { on := 5, ground := Ground.chain }], guard := none }) (v := ?_) rfl (by kernel_rfl) (by kernel_rfl) (by kernel_rfl) (fun _ _ _ h => h) (Or.inl ⟨by rfl, ?_⟩) hHeld ?_
      rotate_left
      · intro wz hSw; (try dsimp only at hSw); go_simp; try (with_reducible rfl)
      try simp only [Act.put, List.setIfInBounds_toArray, List.set_cons_zero, List.set_cons_succ]
      refine wpAnyH_take (i := 8) (oi := { dst := some 49, op := Op.load 27 (Operand.tmp 3), type := 27, pos := "law.go:79", after := #[{ on := 7, ground := Ground.guard }], guard := some (7, true) }) (v := ?_) rfl (by kernel_rfl) (by kernel_rfl) (by kernel_rfl) (fun _ _ _ h => h) (Or.inl ⟨by rfl, ?_⟩) hHeld ?_
      rotate_left
      · intro wz hSw; (try dsimp only at hSw); go_simp; try (with_reducible rfl)
      try simp only [Act.put, List.setIfInBounds_toArray, List.set_cons_zero, List.set_cons_succ]
      refine wpAnyH_take (i := 10) (oi := { dst := some 51, op := Op.move (Operand.tmp 5), type := 9, pos := "law.go:79", after := #[{ on := 7, ground := Ground.guard }], guard := some (7, true) }) (v := ?_) rfl (by kernel_rfl) (by kernel_rfl) (by kernel_rfl) (fun _ _ _ h => h) (Or.inl ⟨by rfl, ?_⟩) hHeld ?_
      rotate_left
      · intro wz hSw; (try dsimp only at hSw); go_simp; try (with_reducible rfl)
      try simp only [Act.put, List.setIfInBounds_toArray, List.set_cons_zero, List.set_cons_succ]
      refine wpAnyH_take (i := 12) (oi := { dst := some 53, op := Op.load 27 (Operand.tmp 3), type := 27, pos := "law.go:79", after := #[{ on := 7, ground := Ground.guard }], guard := some (7, true) }) (v := ?_) rfl (by kernel_rfl) (by kernel_rfl) (by kernel_rfl) (fun _ _ _ h => h) (Or.inl ⟨by rfl, ?_⟩) hHeld ?_
      rotate_left
      · intro wz hSw; (try dsimp only at hSw); go_simp; try (with_reducible rfl)
      try simp only [Act.put, List.setIfInBounds_toArray, List.set_cons_zero, List.set_cons_succ]
      refine wpAnyH_ready (rs := [9]) (by kernel_rfl) (by simp) ?_
      refine AllReadyH.cons (o := { dst := some 50, op := Op.call { callee := Callee.value (Operand.func 8), args := #[Operand.tmp 49], argTypes := #[27] }, type := 9, pos := "law.go:79", after := #[{ on := 8, ground := Ground.data }, { on := 7, ground := Ground.chain }, { on := 7, ground := Ground.guard }], guard := some (7, true) }) rfl (fun K hK => ?_) AllReadyH.nil
      go_simp
      refine (K5.out _ SA.out.below).mono ?_
      rintro e wb ⟨rfl, hbx⟩
      have sx := (SA.out).stay hbx
      have qx := and15 (sx.blk 0 rfl).five5 (sx.blk 1 rfl).five5 (sx.blk 6 rfl).five5
      have SB := Lib.hid sx
      clear hbx sx
      go_wp2_with fail
      refine hK.out _ _ ?_ (fun hHeld => ?_)
      · exact qx
      clear hK K
      try simp only [Act.put, List.setIfInBounds_toArray, List.set_cons_zero, List.set_cons_succ]
      refine wpAnyH_take (i := 11) (oi := { dst := some 52, op := Op.binOp BinOp.eql 9 (Operand.tmp 50) (Operand.tmp 51) 9, type := 4, pos := "law.go:79", after := #[{ on := 9, ground := Ground.data }, { on := 10, ground := Ground.data }, { on := 7, ground := Ground.guard }], guard := some (7, true) }) (v := ?_) rfl (by kernel_rfl) (by kernel_rfl) (by kernel_rfl) (fun _ _ _ h => h) (Or.inl ⟨by rfl, ?_⟩) hHeld ?_
      rotate_left
      · intro wz hSw; (try dsimp only at hSw); go_simp; try (with_reducible rfl)
      try simp only [Act.put, List.setIfInBounds_toArray, List.set_cons_zero, List.set_cons_succ]
      refine wpAnyH_ready (rs := [13]) (by kernel_rfl) (by simp) ?_
      refine AllReadyH.cons (o := { dst := some 54, op := Op.call { callee := Callee.value (Operand.func 11), args := #[Operand.tmp 53], argTypes := #[27] }, type := 4, pos := "law.go:79", after := #[{ on := 12, ground := Ground.data }, { on := 9, ground := Ground.chain }, { on := 7, ground := Ground.guard }], guard := some (7, true) }) rfl (fun K hK => ?_) AllReadyH.nil
      go_simp
      refine (K6.out _ SB.out.below).mono ?_
      rintro e wc ⟨rfl, hbx⟩
      have sx := (SB.out).stay hbx
      have qx := and15 (sx.blk 0 rfl).five5 (sx.blk 1 rfl).five5 (sx.blk 6 rfl).five5
      have SC := Lib.hid sx
      clear hbx sx
      go_wp2_with fail
      refine hK.out _ _ ?_ (fun hHeld => ?_)
      · exact qx
      clear hK K
      try simp only [Act.put, List.setIfInBounds_toArray, List.set_cons_zero, List.set_cons_succ]
      refine wpAnyH_take (i := 14) (oi := { dst := some 55, op := Op.move (Operand.tmp 54), type := 4, pos := "law.go:79", after := #[{ on := 13, ground := Ground.data }, { on := 13, ground := Ground.chain }, { on := 7, ground := Ground.guard }], guard := some (7, true) }) (v := ?_) rfl (by kernel_rfl) (by kernel_rfl) (by kernel_rfl) (fun _ _ _ h => h) (Or.inl ⟨by rfl, ?_⟩) hHeld ?_
      rotate_left
      · intro wz hSw; (try dsimp only at hSw); go_simp; try (with_reducible rfl)
      try simp only [Act.put, List.setIfInBounds_toArray, List.set_cons_zero, List.set_cons_succ]
      refine wpAnyH_take (i := 15) (oi := { dst := some 56, op := Op.load 27 (Operand.tmp 2), type := 27, pos := "law.go:79", after := #[{ on := 14, ground := Ground.guard }], guard := some (14, true) }) (v := ?_) rfl (by kernel_rfl) (by kernel_rfl) (by kernel_rfl) (fun _ _ _ h => h) (Or.inl ⟨by rfl, ?_⟩) hHeld ?_
      rotate_left
      · intro wz hSw; (try dsimp only at hSw); go_simp; try (with_reducible rfl)
      try simp only [Act.put, List.setIfInBounds_toArray, List.set_cons_zero, List.set_cons_succ]
      refine wpAnyH_take (i := 16) (oi := { dst := some 57, op := Op.load 27 (Operand.tmp 3), type := 27, pos := "law.go:79", after := #[{ on := 14, ground := Ground.guard }], guard := some (14, true) }) (v := ?_) rfl (by kernel_rfl) (by kernel_rfl) (by kernel_rfl) (fun _ _ _ h => h) (Or.inl ⟨by rfl, ?_⟩) hHeld ?_
      rotate_left
      · intro wz hSw; (try dsimp only at hSw); go_simp; try (with_reducible rfl)
      try simp only [Act.put, List.setIfInBounds_toArray, List.set_cons_zero, List.set_cons_succ]
      refine wpAnyH_ready (rs := [17]) (by kernel_rfl) (by simp) ?_
      refine AllReadyH.cons (o := { dst := some 58, op := Op.call { callee := Callee.value (Operand.func 13), args := #[Operand.tmp 56, Operand.tmp 57], argTypes := #[27, 27] }, type := 4, pos := "law.go:79", after := #[{ on := 15, ground := Ground.data }, { on := 16, ground := Ground.data }, { on := 14, ground := Ground.chain }, { on := 14, ground := Ground.guard }], guard := some (14, true) }) rfl (fun K hK => ?_) AllReadyH.nil
      go_simp
      refine (KE2.out _ SC.out.below).mono ?_
      rintro e wd ⟨rfl, hbx⟩
      have sx := (SC.out).stay hbx
      have qx := and15 (sx.blk 0 rfl).five5 (sx.blk 1 rfl).five5 (sx.blk 6 rfl).five5
      have SD := Lib.hid sx
      clear hbx sx
      go_wp2_with fail
      refine hK.out _ _ ?_ (fun hHeld => ?_)
      · exact qx
      clear hK K
      try simp only [Act.put, List.setIfInBounds_toArray, List.set_cons_zero, List.set_cons_succ]
      refine wpAnyH_take (i := 18) (oi := { dst := some 59, op := Op.pick (Operand.tmp 55) (Operand.tmp 58) (Operand.const (Value.bool false)), type := 4, pos := "law.go:79", after := #[{ on := 14, ground := Ground.data }, { on := 17, ground := Ground.data }, { on := 7, ground := Ground.guard }], guard := some (7, true) }) (v := ?_) rfl (by kernel_rfl) (by kernel_rfl) (by kernel_rfl) (fun _ _ _ h => h) (Or.inl ⟨by rfl, ?_⟩) hHeld ?_
      rotate_left
      · intro wz hSw; (try dsimp only at hSw); go_simp; try (with_reducible rfl)
      try simp only [Act.put, List.setIfInBounds_toArray, List.set_cons_zero, List.set_cons_succ]
      refine wpAnyH_take (i := 19) (oi := { dst := some 60, op := Op.binOp BinOp.eql 4 (Operand.tmp 52) (Operand.tmp 59) 4, type := 4, pos := "law.go:79", after := #[{ on := 11, ground := Ground.data }, { on := 18, ground := Ground.data }, { on := 7, ground := Ground.guard }], guard := some (7, true) }) (v := ?_) rfl (by kernel_rfl) (by kernel_rfl) (by kernel_rfl) (fun _ _ _ h => h) (Or.inl ⟨by rfl, ?_⟩) hHeld ?_
      rotate_left
      · intro wz hSw; (try dsimp only at hSw); go_simp; try (with_reducible rfl)
      try simp only [Act.put, List.setIfInBounds_toArray, List.set_cons_zero, List.set_cons_succ]
      refine wpAnyH_take (i := 20) (oi := { dst := some 61, op := Op.pick (Operand.tmp 48) (Operand.tmp 60) (Operand.const (Value.bool false)), type := 4, pos := "law.go:79", after := #[{ on := 7, ground := Ground.data }, { on := 19, ground := Ground.data }], guard := none }) (v := ?_) rfl (by kernel_rfl) (by kernel_rfl) (by kernel_rfl) (fun _ _ _ h => h) (Or.inl ⟨by rfl, ?_⟩) hHeld ?_
      rotate_left
      · intro wz hSw; (try dsimp only at hSw); go_simp; try (with_reducible rfl)
      try simp only [Act.put, List.setIfInBounds_toArray, List.set_cons_zero, List.set_cons_succ]
      refine wpAnyH_take (i := 21) (oi := { dst := some 4, op := Op.assign (Operand.tmp 61), type := 4, pos := "law.go:79", after := #[{ on := 20, ground := Ground.data }, { on := 17, ground := Ground.chain }, { on := 0, ground := Ground.phase }, { on := 1, ground := Ground.phase }, { on := 2, ground := Ground.phase }, { on := 3, ground := Ground.phase }, { on := 4, ground := Ground.phase }, { on := 5, ground := Ground.phase }, { on := 6, ground := Ground.phase }, { on := 7, ground := Ground.phase }, { on := 8, ground := Ground.phase }, { on := 9, ground := Ground.phase }, { on := 10, ground := Ground.phase }, { on := 11, ground := Ground.phase }, { on := 12, ground := Ground.phase }, { on := 13, ground := Ground.phase }, { on := 14, ground := Ground.phase }, { on := 15, ground := Ground.phase }, { on := 16, ground := Ground.phase }, { on := 17, ground := Ground.phase }, { on := 18, ground := Ground.phase }, { on := 19, ground := Ground.phase }, { on := 20, ground := Ground.phase }], guard := none }) (v := ?_) rfl (by kernel_rfl) (by kernel_rfl) (by kernel_rfl) (fun _ _ _ h => h) (Or.inl ⟨by rfl, ?_⟩) hHeld ?_
      rotate_left
      · intro wz hSw; (try dsimp only at hSw); go_simp; try (with_reducible rfl)
      try simp only [Act.put, List.setIfInBounds_toArray, List.set_cons_zero, List.set_cons_succ]
      refine wpAnyH_done (by kernel_rfl) ?_ _
      go_wp2_with fail
      go_ret
      exact ⟨rfl, by first | exact SD.out.below | exact SC.out.below⟩)

theorem door_met (os : Os) (args : Array Value) : laidMetH Tryd.prog Rows.traceTellsRow.laid ((World.doorLaid Tryd.prog 24 os).forCall (fun _ _ => 0) ⟨#[], args, []⟩).memory :=
  laidMetH_of_parts3 (fuel := 8) (laidMet_of_run' 8 (by kernel_rfl) (by kernel_rfl)) (by kernel_rfl) (by kernel_rfl)
set_option maxRecDepth 100000 in
theorem lifted (os : Os) (started : os.Started) (H : Type) (enc : TypeId × Value → H) :
    ReturnsInHanded {} Tryd.checked os 3 .any (fun w args => (Rows.traceTellsSpec.pre enc Tryd.prog Tryd.f3 [] false w args ∧ laidMetH Tryd.prog Rows.traceTellsRow.laid w) ∧ sizedMet enc Tryd.prog Tryd.f3 (OpenSpec.ofChange Rows.traceTellsSpec) false w args) (Rows.traceTellsSpec.post enc Tryd.prog Tryd.f3 false true false false) := by
  refine law_lifted_laid (C := Tryd.checked) (tb := 4) own started (by kernel_rfl) Tryd.func3
    (ChangeSpec.witness_shaped (enc := enc) (C := Tryd.checked) (os := os) (X := fun w _ => laidMetH Tryd.prog Rows.traceTellsRow.laid w) false (World.doorLaid Tryd.prog 24 os) #[.agg #[.int .i64 0, .slice none 0 0, .slice none 0 0, .slice none 0 0, .slice none 0 0], .agg #[.int .i64 0, .slice none 0 0, .slice none 0 0, .slice none 0 0, .slice none 0 0]] 8 rfl (World.shaped_of_RefB (by kernel_rfl) (by kernel_rfl)) (by kernel_rfl) (by kernel_rfl) (by kernel_rfl) (door_met os _)) laid (by kernel_rfl) (by kernel_rfl) Tryd.underlying4 rfl ?_
  intro W base args ds ps hval0 hA0 hlt hL
  have hval : ∀ (j : Nat) t v, Tryd.f3.params[j]? = some t → args[j]? = some v → Value.okWide Tryd.prog W .any base t v := hval0
  have hA : DataW.TrodAll enc Tryd.prog W 0 (fun _ => true) true Tryd.f3.params.toList args.toList ds ps := hA0
  clear hA0 hval0
  rw [Tryd.params3] at hA hval
  obtain ⟨v0, vs0, d0, ds0, p0, q0, hargs, rfl, rfl, h0, r0⟩ := trodAll_cons hA
  obtain ⟨v1, vs1, d1, ds1, p1, q1, rfl, rfl, rfl, h1, r1⟩ := trodAll_cons r0
  obtain ⟨rfl, rfl, rfl⟩ := trodAll_nil r1
  obtain rfl : args = #[v0, v1] := by cases args; simp_all
  obtain ⟨cs0, rfl, sz0, lf0⟩ := open_agg_spots (d := 20) (l := [(0, 3), (1, 22), (2, 22), (3, 22), (4, 25)]) (Or.inl ⟨_, Tryd.underlying27⟩) (by kernel_rfl) (hval 0 27 v0 rfl rfl) h0
  obtain ⟨c0_0, c0_1, c0_2, c0_3, c0_4, rfl⟩ := size5 (sz0.trans (by kernel_rfl))
  obtain ⟨a0_0, rfl, w0_0⟩ := leaf_int Tryd.underlying3 (lf0 0 3 (by simp) _ rfl)
  obtain ⟨A0_1, n0_1, cap0_1, V0_1, rfl, le0_1, mx0_1, rd0_1, lf0_1⟩ := leaf_slice (m := 1) (d := 20) (l := [(0, 3)]) Tryd.underlying22 (by kernel_rfl) (by decide) (by kernel_rfl) (lf0 1 22 (by simp) _ rfl)
  have f0_1_0 := fun j hj => leaf_int Tryd.underlying3 (lf0_1 0 3 (by simp) j hj)
  obtain ⟨A0_2, n0_2, cap0_2, V0_2, rfl, le0_2, mx0_2, rd0_2, lf0_2⟩ := leaf_slice (m := 1) (d := 20) (l := [(0, 3)]) Tryd.underlying22 (by kernel_rfl) (by decide) (by kernel_rfl) (lf0 2 22 (by simp) _ rfl)
  have f0_2_0 := fun j hj => leaf_int Tryd.underlying3 (lf0_2 0 3 (by simp) j hj)
  obtain ⟨A0_3, n0_3, cap0_3, V0_3, rfl, le0_3, mx0_3, rd0_3, lf0_3⟩ := leaf_slice (m := 1) (d := 20) (l := [(0, 3)]) Tryd.underlying22 (by kernel_rfl) (by decide) (by kernel_rfl) (lf0 3 22 (by simp) _ rfl)
  have f0_3_0 := fun j hj => leaf_int Tryd.underlying3 (lf0_3 0 3 (by simp) j hj)
  obtain ⟨A0_4, n0_4, cap0_4, V0_4, rfl, le0_4, mx0_4, rd0_4, lf0_4⟩ := leaf_slice (m := 3) (d := 20) (l := [(0, 3), (1, 3), (2, 3)]) Tryd.underlying25 (by kernel_rfl) (by decide) (by kernel_rfl) (lf0 4 25 (by simp) _ rfl)
  have f0_4_0 := fun j hj => leaf_int Tryd.underlying3 (lf0_4 0 3 (by simp) j hj)
  have f0_4_1 := fun j hj => leaf_int Tryd.underlying3 (lf0_4 1 3 (by simp) j hj)
  have f0_4_2 := fun j hj => leaf_int Tryd.underlying3 (lf0_4 2 3 (by simp) j hj)
  obtain ⟨cs1, rfl, sz1, lf1⟩ := open_agg_spots (d := 20) (l := [(0, 3), (1, 22), (2, 22), (3, 22), (4, 25)]) (Or.inl ⟨_, Tryd.underlying27⟩) (by kernel_rfl) (hval 1 27 v1 rfl rfl) h1
  obtain ⟨c1_0, c1_1, c1_2, c1_3, c1_4, rfl⟩ := size5 (sz1.trans (by kernel_rfl))
  obtain ⟨a1_0, rfl, w1_0⟩ := leaf_int Tryd.underlying3 (lf1 0 3 (by simp) _ rfl)
  obtain ⟨A1_1, n1_1, cap1_1, V1_1, rfl, le1_1, mx1_1, rd1_1, lf1_1⟩ := leaf_slice (m := 1) (d := 20) (l := [(0, 3)]) Tryd.underlying22 (by kernel_rfl) (by decide) (by kernel_rfl) (lf1 1 22 (by simp) _ rfl)
  have f1_1_0 := fun j hj => leaf_int Tryd.underlying3 (lf1_1 0 3 (by simp) j hj)
  obtain ⟨A1_2, n1_2, cap1_2, V1_2, rfl, le1_2, mx1_2, rd1_2, lf1_2⟩ := leaf_slice (m := 1) (d := 20) (l := [(0, 3)]) Tryd.underlying22 (by kernel_rfl) (by decide) (by kernel_rfl) (lf1 2 22 (by simp) _ rfl)
  have f1_2_0 := fun j hj => leaf_int Tryd.underlying3 (lf1_2 0 3 (by simp) j hj)
  obtain ⟨A1_3, n1_3, cap1_3, V1_3, rfl, le1_3, mx1_3, rd1_3, lf1_3⟩ := leaf_slice (m := 1) (d := 20) (l := [(0, 3)]) Tryd.underlying22 (by kernel_rfl) (by decide) (by kernel_rfl) (lf1 3 22 (by simp) _ rfl)
  have f1_3_0 := fun j hj => leaf_int Tryd.underlying3 (lf1_3 0 3 (by simp) j hj)
  obtain ⟨A1_4, n1_4, cap1_4, V1_4, rfl, le1_4, mx1_4, rd1_4, lf1_4⟩ := leaf_slice (m := 3) (d := 20) (l := [(0, 3), (1, 3), (2, 3)]) Tryd.underlying25 (by kernel_rfl) (by decide) (by kernel_rfl) (lf1 4 25 (by simp) _ rfl)
  have f1_4_0 := fun j hj => leaf_int Tryd.underlying3 (lf1_4 0 3 (by simp) j hj)
  have f1_4_1 := fun j hj => leaf_int Tryd.underlying3 (lf1_4 1 3 (by simp) j hj)
  have f1_4_2 := fun j hj => leaf_int Tryd.underlying3 (lf1_4 2 3 (by simp) j hj)
  refine ⟨⟨rfl, rfl, rfl⟩, ?_⟩
  obtain ⟨X0_1, hX0_1⟩ := Go.Deep.choose_lt (n := n0_1) (p := fun j (z : Int) => V0_1 j 0 = .int .i64 z ∧ (Lit.int .i64 z).wf = true) f0_1_0
  obtain ⟨X0_2, hX0_2⟩ := Go.Deep.choose_lt (n := n0_2) (p := fun j (z : Int) => V0_2 j 0 = .int .i64 z ∧ (Lit.int .i64 z).wf = true) f0_2_0
  obtain ⟨X0_3, hX0_3⟩ := Go.Deep.choose_lt (n := n0_3) (p := fun j (z : Int) => V0_3 j 0 = .int .i64 z ∧ (Lit.int .i64 z).wf = true) f0_3_0
  obtain ⟨Y0_0, hY0_0⟩ := Go.Deep.choose_lt (n := n0_4) (p := fun j (z : Int) => V0_4 j 0 = .int .i64 z ∧ (Lit.int .i64 z).wf = true) f0_4_0
  obtain ⟨Y0_1, hY0_1⟩ := Go.Deep.choose_lt (n := n0_4) (p := fun j (z : Int) => V0_4 j 1 = .int .i64 z ∧ (Lit.int .i64 z).wf = true) f0_4_1
  obtain ⟨Y0_2, hY0_2⟩ := Go.Deep.choose_lt (n := n0_4) (p := fun j (z : Int) => V0_4 j 2 = .int .i64 z ∧ (Lit.int .i64 z).wf = true) f0_4_2
  have R0_1 : RdI W A0_1 ((List.range n0_1).map X0_1) := fun i x hx => by
    rw [List.getElem?_map] at hx
    obtain ⟨j, hj, rfl⟩ := Option.map_eq_some_iff.1 hx
    obtain ⟨hj1, hj2⟩ := List.getElem?_eq_some_iff.1 hj
    rw [List.getElem_range] at hj2
    subst hj2
    rw [List.length_range] at hj1
    obtain ⟨b, off, e, hlt, hc⟩ := rd0_1 (by omega)
    exact ⟨b, off, e, hlt, by
      have := hc i hj1 0 (by omega)
      rw [(hX0_1 i hj1).1] at this
      rw [← this]
      simp⟩
  have R0_2 : RdI W A0_2 ((List.range n0_2).map X0_2) := fun i x hx => by
    rw [List.getElem?_map] at hx
    obtain ⟨j, hj, rfl⟩ := Option.map_eq_some_iff.1 hx
    obtain ⟨hj1, hj2⟩ := List.getElem?_eq_some_iff.1 hj
    rw [List.getElem_range] at hj2
    subst hj2
    rw [List.length_range] at hj1
    obtain ⟨b, off, e, hlt, hc⟩ := rd0_2 (by omega)
    exact ⟨b, off, e, hlt, by
      have := hc i hj1 0 (by omega)
      rw [(hX0_2 i hj1).1] at this
      rw [← this]
      simp⟩
  have R0_3 : RdI W A0_3 ((List.range n0_3).map X0_3) := fun i x hx => by
    rw [List.getElem?_map] at hx
    obtain ⟨j, hj, rfl⟩ := Option.map_eq_some_iff.1 hx
    obtain ⟨hj1, hj2⟩ := List.getElem?_eq_some_iff.1 hj
    rw [List.getElem_range] at hj2
    subst hj2
    rw [List.length_range] at hj1
    obtain ⟨b, off, e, hlt, hc⟩ := rd0_3 (by omega)
    exact ⟨b, off, e, hlt, by
      have := hc i hj1 0 (by omega)
      rw [(hX0_3 i hj1).1] at this
      rw [← this]
      simp⟩
  have R0_4 : RdF W A0_4 ((List.range n0_4).map fun j => (Y0_0 j, Y0_1 j, Y0_2 j)) := fun i x hx => by
    rw [List.getElem?_map] at hx
    obtain ⟨j, hj, rfl⟩ := Option.map_eq_some_iff.1 hx
    obtain ⟨hj1, hj2⟩ := List.getElem?_eq_some_iff.1 hj
    rw [List.getElem_range] at hj2
    subst hj2
    rw [List.length_range] at hj1
    obtain ⟨b, off, e, hlt, hc⟩ := rd0_4 (by omega)
    refine ⟨b, off, e, hlt, ?_, ?_, ?_⟩
    · have := hc i hj1 0 (by omega)
      rw [(hY0_0 i hj1).1] at this
      exact this
    · have := hc i hj1 1 (by omega)
      rw [(hY0_1 i hj1).1] at this
      exact this
    · have := hc i hj1 2 (by omega)
      rw [(hY0_2 i hj1).1] at this
      exact this
  have N0 : TkN ⟨a0_0, (List.range n0_1).map X0_1, (List.range n0_2).map X0_2, (List.range n0_3).map X0_3, (List.range n0_4).map fun j => (Y0_0 j, Y0_1 j, Y0_2 j)⟩ n0_1 n0_2 n0_3 n0_4 := by
    refine ⟨?_, ?_, ?_, ?_⟩ <;> (dsimp only; rw [List.length_map, List.length_range])
  obtain ⟨X1_1, hX1_1⟩ := Go.Deep.choose_lt (n := n1_1) (p := fun j (z : Int) => V1_1 j 0 = .int .i64 z ∧ (Lit.int .i64 z).wf = true) f1_1_0
  obtain ⟨X1_2, hX1_2⟩ := Go.Deep.choose_lt (n := n1_2) (p := fun j (z : Int) => V1_2 j 0 = .int .i64 z ∧ (Lit.int .i64 z).wf = true) f1_2_0
  obtain ⟨X1_3, hX1_3⟩ := Go.Deep.choose_lt (n := n1_3) (p := fun j (z : Int) => V1_3 j 0 = .int .i64 z ∧ (Lit.int .i64 z).wf = true) f1_3_0
  obtain ⟨Y1_0, hY1_0⟩ := Go.Deep.choose_lt (n := n1_4) (p := fun j (z : Int) => V1_4 j 0 = .int .i64 z ∧ (Lit.int .i64 z).wf = true) f1_4_0
  obtain ⟨Y1_1, hY1_1⟩ := Go.Deep.choose_lt (n := n1_4) (p := fun j (z : Int) => V1_4 j 1 = .int .i64 z ∧ (Lit.int .i64 z).wf = true) f1_4_1
  obtain ⟨Y1_2, hY1_2⟩ := Go.Deep.choose_lt (n := n1_4) (p := fun j (z : Int) => V1_4 j 2 = .int .i64 z ∧ (Lit.int .i64 z).wf = true) f1_4_2
  have R1_1 : RdI W A1_1 ((List.range n1_1).map X1_1) := fun i x hx => by
    rw [List.getElem?_map] at hx
    obtain ⟨j, hj, rfl⟩ := Option.map_eq_some_iff.1 hx
    obtain ⟨hj1, hj2⟩ := List.getElem?_eq_some_iff.1 hj
    rw [List.getElem_range] at hj2
    subst hj2
    rw [List.length_range] at hj1
    obtain ⟨b, off, e, hlt, hc⟩ := rd1_1 (by omega)
    exact ⟨b, off, e, hlt, by
      have := hc i hj1 0 (by omega)
      rw [(hX1_1 i hj1).1] at this
      rw [← this]
      simp⟩
  have R1_2 : RdI W A1_2 ((List.range n1_2).map X1_2) := fun i x hx => by
    rw [List.getElem?_map] at hx
    obtain ⟨j, hj, rfl⟩ := Option.map_eq_some_iff.1 hx
    obtain ⟨hj1, hj2⟩ := List.getElem?_eq_some_iff.1 hj
    rw [List.getElem_range] at hj2
    subst hj2
    rw [List.length_range] at hj1
    obtain ⟨b, off, e, hlt, hc⟩ := rd1_2 (by omega)
    exact ⟨b, off, e, hlt, by
      have := hc i hj1 0 (by omega)
      rw [(hX1_2 i hj1).1] at this
      rw [← this]
      simp⟩
  have R1_3 : RdI W A1_3 ((List.range n1_3).map X1_3) := fun i x hx => by
    rw [List.getElem?_map] at hx
    obtain ⟨j, hj, rfl⟩ := Option.map_eq_some_iff.1 hx
    obtain ⟨hj1, hj2⟩ := List.getElem?_eq_some_iff.1 hj
    rw [List.getElem_range] at hj2
    subst hj2
    rw [List.length_range] at hj1
    obtain ⟨b, off, e, hlt, hc⟩ := rd1_3 (by omega)
    exact ⟨b, off, e, hlt, by
      have := hc i hj1 0 (by omega)
      rw [(hX1_3 i hj1).1] at this
      rw [← this]
      simp⟩
  have R1_4 : RdF W A1_4 ((List.range n1_4).map fun j => (Y1_0 j, Y1_1 j, Y1_2 j)) := fun i x hx => by
    rw [List.getElem?_map] at hx
    obtain ⟨j, hj, rfl⟩ := Option.map_eq_some_iff.1 hx
    obtain ⟨hj1, hj2⟩ := List.getElem?_eq_some_iff.1 hj
    rw [List.getElem_range] at hj2
    subst hj2
    rw [List.length_range] at hj1
    obtain ⟨b, off, e, hlt, hc⟩ := rd1_4 (by omega)
    refine ⟨b, off, e, hlt, ?_, ?_, ?_⟩
    · have := hc i hj1 0 (by omega)
      rw [(hY1_0 i hj1).1] at this
      exact this
    · have := hc i hj1 1 (by omega)
      rw [(hY1_1 i hj1).1] at this
      exact this
    · have := hc i hj1 2 (by omega)
      rw [(hY1_2 i hj1).1] at this
      exact this
  have N1 : TkN ⟨a1_0, (List.range n1_1).map X1_1, (List.range n1_2).map X1_2, (List.range n1_3).map X1_3, (List.range n1_4).map fun j => (Y1_0 j, Y1_1 j, Y1_2 j)⟩ n1_1 n1_2 n1_3 n1_4 := by
    refine ⟨?_, ?_, ?_, ?_⟩ <;> (dsimp only; rw [List.length_map, List.length_range])
  have HWK := walk ⟨a0_0, (List.range n0_1).map X0_1, (List.range n0_2).map X0_2, (List.range n0_3).map X0_3, (List.range n0_4).map fun j => (Y0_0 j, Y0_1 j, Y0_2 j)⟩ ⟨a1_0, (List.range n1_1).map X1_1, (List.range n1_2).map X1_2, (List.range n1_3).map X1_3, (List.range n1_4).map fun j => (Y1_0 j, Y1_1 j, Y1_2 j)⟩ A0_1 A0_2 A0_3 A0_4 A1_1 A1_2 A1_3 A1_4 n0_1 n0_2 n0_3 n0_4 n1_1 n1_2 n1_3 n1_4 cap0_1 cap0_2 cap0_3 cap0_4 cap1_1 cap1_2 cap1_3 cap1_4 W (tab_of hL) N0 N1 R0_1 R0_2 R0_3 R0_4 R1_1 R1_2 R1_3 R1_4 (bounds_i64 w0_0) (bounds_i64 w1_0)
  dsimp only at HWK
  exact HWK

theorem over : Rows.traceTellsRow.holds Tryd.pinned (OpenSpec.ofChange Rows.traceTellsSpec) :=
  OpenClaim.holds_of_wide 3 Tryd.f3 rfl rfl rfl rfl rfl rfl rfl ⟨rfl, rfl, rfl, rfl, rfl⟩ rfl rfl rfl rfl rfl (by kernel_rfl) Tryd.func3 (by kernel_rfl)
    (of_decide_eq_true (by kernel_rfl)) (by unfold Func.isWrapper; first | (rw [if_pos (by decide +kernel)]; kernel_rfl) | (rw [if_neg (by decide +kernel)]; exact ⟨rfl, rfl⟩))
    (fun os started H enc _ => lifted os started H enc)
theorem proved : Rows.TraceTellsCardSaid :=
  Claim7.holds_tied_plain_at .later [] Rows.traceTellsCard.laidKinds true Rows.traceTellsCard.stood.harness Rows.traceTellsCard.stood.looks
    over (fun _ h => by cases h) (by kernel_rfl) (fun _ h => by cases h) traceTells_row_tie rfl ⟨rfl, rfl⟩ (by kernel_rfl) rfl
    (fun f fn hf hfn => by
      obtain rfl : f = 3 := Option.some.inj ((show Tryd.prog.funcNamed Rows.traceTellsRow.func = some 3 by kernel_rfl).symm.trans hf) |>.symm
      obtain rfl : fn = Tryd.f3 := (Option.some.inj (Tryd.func3.symm.trans hfn)).symm
      exact ⟨by kernel_rfl, fun j t ht => by
        rw [Tryd.params3] at ht
        have hm : t ∈ [27, 27] := by simpa using Array.mem_of_getElem? ht
        have hall : ([27, 27].all fun u => !Tryd.prog.wantsStandIn u) = true := by kernel_rfl
        exact (show Tryd.prog.wantsStandIn t = false by simpa using List.all_eq_true.1 hall t hm)⟩)
    (by kernel_rfl)
#print axioms proved
end Go.Proofs.YtlceanlenekanaaDoor.traceTells
