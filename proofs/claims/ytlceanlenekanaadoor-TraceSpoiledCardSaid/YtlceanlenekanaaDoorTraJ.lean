/- Layer 25: the document's text. -/
import Derived.Test.YtlceanlenekanaaDoorTraI
import Derived.Deep.RegionHeld3
namespace Go.Proofs.YtlceanlenekanaaDoor
open Go.RowKit
set_option linter.unusedVariables false
set_option maxRecDepth 100000
set_option maxHeartbeats 1000000
theorem one_add (m : UInt8) (u : List UInt8) : Value.string ((⟨#[m]⟩ : ByteArray) ++ (⟨u.toArray⟩ : ByteArray)) = stV (m :: u) := digs_add m u
theorem app3 (a b c d : List UInt8) : Value.string ((⟨a.toArray⟩ : ByteArray) ++ (⟨b.toArray⟩ : ByteArray) ++ (⟨c.toArray⟩ : ByteArray) ++ (⟨d.toArray⟩ : ByteArray)) = stV (a ++ (b ++ (c ++ d))) := by
  unfold stV
  congr 1
  apply WideShapes.bytes_inj
  rw [ByteArray.data_append, Array.toList_append, ByteArray.data_append, Array.toList_append, ByteArray.data_append, Array.toList_append]
  simp
theorem whoB_len {w : Int} (h : mayW w = true) : (whoB w).length ≤ 20 := by
  unfold whoB mkB
  rcases mayW_in h with h | h | h
  · rw [if_neg (by omega), if_neg (by omega)]; decide
  · rw [if_neg (by omega), if_pos h.1, List.length_cons]
    have := digs_max 9 w.toNat (by omega)
    omega
  · rw [if_pos h.1, List.length_cons]
    have := digs_max 9 (w - 100).toNat (by omega)
    omega
theorem ftB_snoc (fs : List (Int × Int × Int)) (i : Nat) (f : Int × Int × Int) (h : fs[i]? = some f) : (fs.take (i + 1)).flatMap ftB = (fs.take i).flatMap ftB ++ ftB f := by
  rw [take_snoc h, List.flatMap_append]
  simp
theorem ftB_len {fs : List (Int × Int × Int)} (h : ∀ f ∈ fs, mayF f = true) : (fs.flatMap ftB).length ≤ 40 * fs.length := by
  induction fs with
  | nil => exact Nat.le_refl _
  | cons f fs ih =>
    have h1 := ih fun g hg => h g (List.mem_cons_of_mem _ hg)
    have hm := h f List.mem_cons_self
    unfold mayF at hm
    simp only [Bool.and_eq_true, Bool.or_eq_true, decide_eq_true_eq] at hm
    have d1 := digs_max 9 f.1.toNat (by omega)
    have d2 := digs_max 9 f.2.2.toNat (by omega)
    rw [List.flatMap_cons, List.length_append, List.length_cons]
    have : (ftB f).length = (digs f.1.toNat).length + 1 + ((digs f.2.2.toNat).length + 1) := by unfold ftB mkB; rw [List.length_append, List.length_cons, List.length_cons]
    omega
theorem rtext25_o (r : Rec) (w : World) (h : r.At w) : Calls Tryd.prog 9 #[.agg r.cells] w fun e w' => e = .returned (stV (txO r.t)) ∧ Below w.heap.size w w' := by
  obtain ⟨t, A1, A2, A3, A4, n1, n2, n3, n4, c1, c2, c3, c4⟩ := r
  have hb := (St.begin w).box 27 (Rec.mk t A1 A2 A3 A4 n1 n2 n3 n4 c1 c2 c3 c4).cells
  have hbl : Below w.heap.size w (w.alloc (.cells (Rec.mk t A1 A2 A3 A4 n1 n2 n3 n4 c1 c2 c3 c4).cells 27)) := (Below.refl _ _).alloc (Nat.le_refl _) _
  have KM := Lib.hid (rmay25_o _ _ (h.on hbl))
  obtain ⟨a, ha⟩ : ∃ a, w.heap.size = a := ⟨_, rfl⟩
  rw [ha] at hb
  unfold Rec.cells at hb KM ⊢
  dsimp only at hb KM ⊢
  have HH := Lib.hid h
  have HB := Lib.hid hb
  have l1 : t.dn.length = n1 := h.l1
  have l2 : t.ct.length = n2 := h.l2
  have l3 : t.ms.length = n3 := h.l3
  have l4 : t.ft.length = n4 := h.l4
  have m1 : n1 ≤ 100000 := h.m1
  have m2 : n2 ≤ 100000 := h.m2
  have m3 : n3 ≤ 100000 := h.m3
  have m4 : n4 ≤ 100000 := h.m4
  obtain ⟨p0, p1, p2, p3, p4⟩ := (hb.blk 0 rfl).five5
  clear hb hbl
  cases hm : mayT t with
  | false =>
    rw [hm] at KM
    have HX := Lib.hid (show txO t = [] from if_neg (by rw [hm]; exact Bool.false_ne_true))
    clear hm h
    go_enter Tryd.func9, Tryd.ntmps9
    go_wp2_with (go_at_call 11; refine KM.out.mono ?_; rintro e w5 ⟨rfl, hb5⟩)
    go_ret
    exact ⟨by rw [HX.out]; rfl, (HB.out.stay hb5).below⟩
  | true =>
    rw [hm] at KM
    obtain ⟨g1, g2, g3, g4, g5⟩ := mayT_parts hm
    have q1 : ∀ x ∈ t.dn, 0 ≤ x ∧ x < 32 := rsI_in _ _ (by omega) g3
    have q2 : ∀ x ∈ t.ct, 0 ≤ x ∧ x < 32 := rsI_in _ _ (by omega) g4
    have q3 : ∀ x ∈ t.ms, 0 ≤ x ∧ x < 32 := rsI_in _ _ (by omega) g5
    have K1 := Lib.hid (fun (w' : World) (hb : Below w.heap.size w w') => each_o 43 A1 n1 c1 t.dn w' l1 (by omega) q1 (h.r1.on2 hb))
    have K2 := Lib.hid (fun (w' : World) (hb : Below w.heap.size w w') => each_o 47 A2 n2 c2 t.ct w' l2 (by omega) q2 (h.r2.on2 hb))
    have K3 := Lib.hid (fun (w' : World) (hb : Below w.heap.size w w') => each_o 33 A3 n3 c3 t.ms w' l3 (by omega) q3 (h.r3.on2 hb))
    have e1 := eachB_len 43 t.dn q1
    have e2 := eachB_len 47 t.ct q2
    have e3 := eachB_len 33 t.ms q3
    have ew := whoB_len g2
    have HF := Lib.hid g1
    have HT := Lib.hid (show txO t = txB t from if_pos hm)
    have HW := Lib.hid (mayW_in g2)
    have HTX := Lib.hid (show txB t = whoB t.who ++ (eachB 43 t.dn ++ (eachB 47 t.ct ++ eachB 33 t.ms)) ++ t.ft.flatMap ftB by unfold txB; simp)
    obtain ⟨D, hD⟩ : ∃ D, eachB 43 t.dn = D := ⟨_, rfl⟩
    obtain ⟨C, hC⟩ : ∃ C, eachB 47 t.ct = C := ⟨_, rfl⟩
    obtain ⟨M, hM⟩ : ∃ M, eachB 33 t.ms = M := ⟨_, rfl⟩
    rw [hD] at K1 e1 HTX
    rw [hC] at K2 e2 HTX
    rw [hM] at K3 e3 HTX
    rw [l1] at e1
    rw [l2] at e2
    rw [l3] at e3
    unfold stV at K1 K2 K3
    clear hm h g1 g2 g3 g4 g5 q1 q2 q3 hD hC hM
    obtain ⟨x1, hx1⟩ : ∃ x1, decide ((100 : Int) ≤ t.who) = x1 := ⟨_, rfl⟩
    go_enter Tryd.func9, Tryd.ntmps9
    go_wp2_with fail
    refine KM.out.mono ?_
    rintro e w5 ⟨rfl, hb5⟩
    have S5 := Lib.hid (HB.out.stay hb5)
    obtain ⟨p0, p1, p2, p3, p4⟩ := (S5.out.blk 0 rfl).five5
    clear hb5
    go_upto_if 11 with (fail)
    go_cut [3] (fun x3 wx => x3 = stV (whoB t.who) ∧ St w None wx [BlkR a 27 #[.int .i64 t.who, .slice A1 n1 c1, .slice A2 n2 c2, .slice A3 n3 c3, .slice A4 n4 c4]])
    case first =>
      rcases HW.out with h | h | h
      · obtain rfl : x1 = false := by rw [← hx1]; exact decide_eq_false (by omega)
        have d2 : decide ((0 : Int) ≤ t.who) = false := decide_eq_false (by omega)
        have HV := Lib.hid (show whoB t.who = [46] by unfold whoB; rw [if_neg (by omega), if_neg (by omega)])
        clear h
        go_wp2_with fail
        go_meet
        exact ⟨by rw [HV.out]; rfl, S5.out⟩
      · obtain rfl : x1 = false := by rw [← hx1]; exact decide_eq_false (by omega)
        have d2 : decide ((0 : Int) ≤ t.who) = true := decide_eq_true h.1
        have HV := Lib.hid (show whoB t.who = 116 :: digs t.who.toNat by unfold whoB mkB; rw [if_neg (by omega), if_pos h.1])
        have KD := rdigits_o t.who.toNat w5 (by omega)
        rw [show ((t.who.toNat : Nat) : Int) = t.who by omega] at KD
        unfold stV at KD
        have dl : (digs t.who.toNat).length ≤ 20 := digs_max 19 _ (by omega)
        have HA := Lib.hid (one_add 116 (digs t.who.toNat))
        replace KD := Lib.hid KD
        clear h
        go_wp2_with fail
        refine KD.out.mono ?_
        rintro e w6 ⟨rfl, hb6⟩
        go_wp2_with fail
        go_meet
        exact ⟨by rw [HV.out]; exact HA.out, S5.out.stay hb6⟩
      · obtain rfl : x1 = true := by rw [← hx1]; exact decide_eq_true h.1
        have HV := Lib.hid (show whoB t.who = 115 :: digs (t.who - 100).toNat by unfold whoB mkB; rw [if_pos h.1])
        have KD := rdigits_o (t.who - 100).toNat w5 (by omega)
        rw [show (((t.who - 100).toNat : Nat) : Int) = t.who - 100 by omega] at KD
        unfold stV at KD
        have dl : (digs (t.who - 100).toNat).length ≤ 20 := digs_max 19 _ (by omega)
        have HA := Lib.hid (one_add 115 (digs (t.who - 100).toNat))
        replace KD := Lib.hid KD
        have b2 : t.who - 100 ≤ 9223372036854775807 := by omega
        have b3 : -9223372036854775808 ≤ t.who - 100 := by omega
        clear h
        go_wp2_with fail
        refine KD.out.mono ?_
        rintro e w6 ⟨rfl, hb6⟩
        go_wp2_with fail
        go_meet
        exact ⟨by rw [HV.out]; exact HA.out, S5.out.stay hb6⟩
    case rest =>
    obtain ⟨rfl, hs⟩ := hcut
    obtain ⟨U, hU⟩ : ∃ U, whoB t.who = U := ⟨_, rfl⟩
    rw [hU] at ew HTX ⊢
    have S6 := Lib.hid hs
    obtain ⟨p0, p1, p2, p3, p4⟩ := (hs.blk 0 rfl).five5
    have HA := Lib.hid (app3 U D C M)
    clear hs hU
    unfold stV
    have y1 : ¬ (9223372036854775807 < U.length + D.length) := by omega
    have y2 : ¬ (9223372036854775807 < U.length + D.length + C.length) := by omega
    have y3 : ¬ (9223372036854775807 < U.length + D.length + C.length + M.length) := by omega
    go_wp2_with fail
    go_region_held3 (fun V => V.cell? ⟨a, 1, none⟩ = some (.slice A1 n1 c1) ∧ V.cell? ⟨a, 2, none⟩ = some (.slice A2 n2 c2) ∧ V.cell? ⟨a, 3, none⟩ = some (.slice A3 n3 c3)) (go_keep)
      (first
        | (go_at_call 19; refine (K1.out _ S6.out.drew.below).mono ?_; rintro e w7 ⟨rfl, hb7⟩; have s7 := (S6.out.drew).stay hb7; have q7 := And.intro (s7.blk 0 rfl).five5.2.1 (And.intro (s7.blk 0 rfl).five5.2.2.1 (s7.blk 0 rfl).five5.2.2.2.1); have S7 := Lib.hid s7; clear K1 hb7 s7)
        | (go_at_call 19; refine (K2.out _ S7.out.below).mono ?_; rintro e w8 ⟨rfl, hb8⟩; have s8 := S7.out.stay hb8; have q8 := And.intro (s8.blk 0 rfl).five5.2.1 (And.intro (s8.blk 0 rfl).five5.2.2.1 (s8.blk 0 rfl).five5.2.2.2.1); have S8 := Lib.hid s8; clear K2 hb8 s8)
        | (go_at_call 19; refine (K3.out _ S8.out.below).mono ?_; rintro e w9 ⟨rfl, hb9⟩; have s9 := S8.out.stay hb9; have q9 := And.intro (s9.blk 0 rfl).five5.2.1 (And.intro (s9.blk 0 rfl).five5.2.2.1 (s9.blk 0 rfl).five5.2.2.2.1); have S9 := Lib.hid s9; clear K3 hb9 s9))
    all_goals
      have b9 : (U ++ (D ++ (C ++ M))).length ≤ 1000000 := by rw [List.length_append, List.length_append, List.length_append]; omega
      have HU := Lib.hid (show U ++ (D ++ (C ++ M)) = U ++ (D ++ (C ++ M)) from rfl)
      go_wp2_with fail
      go_loopw [3, 4] (fun x3 x4 wr => ∃ (i : Nat) (T : List UInt8), i ≤ n4 ∧ x3 = stV T ∧ T = U ++ (D ++ (C ++ M)) ++ (t.ft.take i).flatMap ftB ∧ x4 = .int .i64 (i : Int) ∧ St w None wr [BlkR a 27 #[.int .i64 t.who, .slice A1 n1 c1, .slice A2 n2 c2, .slice A3 n3 c3, .slice A4 n4 c4]]) (fun _ x4 _ => n4 - (intOf x4).toNat)
      case atStart => exact ⟨0, U ++ (D ++ (C ++ M)), Nat.zero_le _, HA.out, by rw [List.take_zero, List.flatMap_nil, List.append_nil], rfl, by first | exact S9.out | exact S9.out.drew⟩
      case round =>
      obtain ⟨i, T, hi, rfl, hT, rfl, hst⟩ := hrel
      clear p0 p1 p2 p3 p4
      obtain ⟨p0, p1, p2, p3, p4⟩ := (hst.blk 0 rfl).five5
      have tl : T.length ≤ 6000000 := by
        have h1 := ftB_len (fs := t.ft.take i) fun f hf => HF.out f (List.mem_of_mem_take hf)
        rw [hT, List.length_append]
        rw [List.length_take] at h1
        omega
      by_cases hlt : i < n4
      · have z1 : decide ((i : Int) < (n4 : Int)) = true := decide_eq_true (by omega)
        obtain ⟨f, hf⟩ : ∃ f, t.ft[i]? = some f := ⟨t.ft[i]'(by omega), List.getElem?_eq_getElem _⟩
        obtain ⟨g, o, hA4, hg, k0, k1, k2⟩ := (HH.out.on hst.below).r4 i f hf
        dsimp only at hA4
        subst hA4
        have hmf := HF.out f (List.mem_of_getElem? hf)
        unfold mayF at hmf
        simp only [Bool.and_eq_true, Bool.or_eq_true, decide_eq_true_eq] at hmf
        have HX := Lib.hid (show U ++ (D ++ (C ++ M)) ++ (t.ft.take (i + 1)).flatMap ftB = T ++ 61 :: digs f.1.toNat ++ (if f.2.1 = 1 then (100 : UInt8) else 97) :: digs f.2.2.toNat by
          rw [ftB_snoc t.ft i f hf, ← List.append_assoc, ← hT]
          unfold ftB mkB
          simp)
        have KD := rdigits_o f.1.toNat wr (by omega)
        rw [show ((f.1.toNat : Nat) : Int) = f.1 by omega] at KD
        have KE := Lib.hid (fun w' => by
          have := rdigits_o f.2.2.toNat w' (by omega)
          rw [show ((f.2.2.toNat : Nat) : Int) = f.2.2 by omega] at this
          exact this)
        have dl1 : (digs f.1.toNat).length ≤ 20 := digs_max 19 _ (by omega)
        have dl2 : (digs f.2.2.toNat).length ≤ 20 := digs_max 19 _ (by omega)
        obtain ⟨u1, hu1⟩ : ∃ u, digs f.1.toNat = u := ⟨_, rfl⟩
        obtain ⟨u2, hu2⟩ : ∃ u, digs f.2.2.toNat = u := ⟨_, rfl⟩
        rw [hu1] at KD dl1 HX
        rw [hu2] at KE dl2 HX
        unfold stV at KD KE
        have V1 := Lib.hid (each_add 61 T u1)
        have V2 := Lib.hid (fun m => each_add m (T ++ 61 :: u1) u2)
        have L1 : (T ++ 61 :: u1).length ≤ 6000100 := by rw [List.length_append, List.length_cons]; omega
        replace KD := Lib.hid KD
        have RF := Lib.hid (fun (w' : World) (hb : Below wr.heap.size wr w') => show w'.cell? ⟨g, o + i * 3 + 1, none⟩ = some (.int .i64 f.2.1) ∧ w'.cell? ⟨g, o + i * 3 + 2, none⟩ = some (.int .i64 f.2.2) from
          ⟨(hb.cell (p := ⟨g, o + i * 3 + 1, none⟩) hg).trans k1, (hb.cell (p := ⟨g, o + i * 3 + 2, none⟩) hg).trans k2⟩)
        have dd : ((f.2.1 == 1) = true ∧ (if f.2.1 = 1 then (100 : UInt8) else 97) = 100) ∨ ((f.2.1 == 1) = false ∧ (if f.2.1 = 1 then (100 : UInt8) else 97) = 97) := by
          by_cases h : f.2.1 = 1
          · exact Or.inl ⟨beq_iff_eq.2 h, if_pos h⟩
          · exact Or.inr ⟨beq_eq_false_iff_ne.2 h, if_neg h⟩
        have HS := Lib.hid hst
        clear hst hf hmf hT hu1 hu2
        rcases dd with ⟨d1, d2⟩ | ⟨d1, d2⟩ <;> (
          rw [d2] at HX
          clear d2
          unfold stV
          go_wp2_with fail
          refine KD.out.mono ?_
          rintro e w7 ⟨rfl, hb7⟩
          have S7 := Lib.hid (HS.out.stay hb7)
          obtain ⟨k3, k4⟩ := RF.out w7 hb7
          clear p0 p1 p2 p3 p4 k0 k1 k2
          obtain ⟨p0, p1, p2, p3, p4⟩ := (S7.out.blk 0 rfl).five5
          clear hb7
          have HV := V1.out
          unfold stV at HV
          go_wp2_with fail
          refine (KE.out _).mono ?_
          rintro e w8 ⟨rfl, hb8⟩
          go_wp2_with fail
          go_roundw
          case rel => exact ⟨i + 1, _, by omega, V2.out _, by rw [HX.out], by go_num, S7.out.stay hb8⟩
          case measure => simp [intOf]; omega)
      obtain rfl : i = n4 := by omega
      have z1 : decide ((i : Int) < (i : Int)) = false := decide_eq_false (by omega)
      have HZ := Lib.hid (show txO t = T by rw [HT.out, HTX.out, hT, List.take_of_length_le (by omega)])
      unfold stV
      go_wp2_with fail
      go_ret
      exact ⟨by rw [HZ.out]; rfl, hst.below⟩
end Go.Proofs.YtlceanlenekanaaDoor
