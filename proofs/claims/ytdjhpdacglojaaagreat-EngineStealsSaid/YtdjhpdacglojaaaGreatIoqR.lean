/- Layer 20: a device: Submit. -/
import Derived.Test.YtdjhpdacglojaaaGreatIqN
namespace Go.Proofs.YtdjhpdacglojaaaGreat
open Go.RowKit
set_option linter.unusedVariables false
set_option maxRecDepth 100000
set_option maxHeartbeats 4000000
section
variable {w0 w w' : World} {S0 : Nat → Prop} {X Y N : List Res} {a : Da} {n sz g : Nat} {bp : Nat → Nat} {D D' : Dv} {k : Nat} {G z c o f : Int} {i : Int} {r : Rq}
theorem subD_o (H : St w0 S0 w (DvL a n sz bp D ++ X)) (hI : DvI n sz G D) (r : Rq) (hr : r.tk = false ∧ r.fi = false ∧ r.vo = false ∧ r.bd = false) (hid : wfI r.id) (h0 : 0 ≤ r.dead) (h1 : r.dead ≤ 18446744073709551615) (hz : po.SizeP n D.st r.slot r.gen z c) {rf oc : Int} (ho : po.OwnerP n D.st r.slot r.gen o rf oc) (hP : SubP n D z c o r f D') :
    Calls Tryz.prog 11 #[ptrV a.d, .agg r.req] w fun e w' => e = .returned (.int .i64 f) ∧ ∃ bp', St w0 S0 w' (DvL a n sz bp' D' ++ X) := by
  have s1 : St w0 S0 (w.alloc (.cells r.req 43)) (DvL a n sz bp D ++ (X ++ [BlkR w.heap.size 43 r.req])) := by rw [← List.append_assoc]; exact H.box 43 r.req
  obtain ⟨qb, hqb⟩ : ∃ qb, w.heap.size = qb := ⟨_, rfl⟩
  rw [hqb] at s1
  obtain ⟨id, op, dead, track, sl, ge, fr, ln, tk, fi, bd, vo⟩ := r
  obtain ⟨rfl, rfl, rfl, rfl⟩ : tk = false ∧ fi = false ∧ vo = false ∧ bd = false := hr
  dsimp only at s1 hid h0 h1 hz ho
  have CE := Lib.hid (show ∀ (V : World) (bq : Nat → Nat) (E : Dv), St w0 S0 V (DvL a n sz bq E ++ (X ++ [BlkR qb 43 #[.int .i64 id, .int .i64 op, .int .u64 dead, .int .i64 track, .int .i64 sl, .int .u64 ge, .int .i64 fr, .int .i64 ln]])) → V.cell? ⟨a.d, 0, none⟩ = some (ptrV a.p) ∧ V.cell? ⟨a.d, 1, none⟩ = some (ptrV a.qb) ∧ V.cell? ⟨a.d, 3, none⟩ = some (ptrV a.bb) ∧ V.cell? ⟨a.d, 5, none⟩ = some (.map (some a.mo)) ∧ V.cell? ⟨qb, 0, none⟩ = some (.int .i64 id) ∧ V.cell? ⟨qb, 1, none⟩ = some (.int .i64 op) ∧ V.cell? ⟨qb, 2, none⟩ = some (.int .u64 dead) ∧ V.cell? ⟨qb, 3, none⟩ = some (.int .i64 track) ∧ V.cell? ⟨qb, 4, none⟩ = some (.int .i64 sl) ∧ V.cell? ⟨qb, 5, none⟩ = some (.int .u64 ge) ∧ V.cell? ⟨qb, 6, none⟩ = some (.int .i64 fr) ∧ V.cell? ⟨qb, 7, none⟩ = some (.int .i64 ln) from fun V bq E s => by
    have b := (dv_back (N := [BlkR qb 43 #[.int .i64 id, .int .i64 op, .int .u64 dead, .int .i64 track, .int .i64 sl, .int .u64 ge, .int .i64 fr, .int .i64 ln]]) s).blk 0 rfl
    have d := (dv_cells s).seven
    exact ⟨d.1, d.2.1, d.2.2.2.1, d.2.2.2.2.2.1, b.cell 0, b.cell 1, b.cell 2, b.cell 3, b.cell 4, b.cell 5, b.cell 6, b.cell 7⟩)
  have DROP := Lib.hid (show ∀ (V : World) (bq : Nat → Nat) (E : Dv), St w0 S0 V (DvL a n sz bq E ++ (X ++ [BlkR qb 43 #[.int .i64 id, .int .i64 op, .int .u64 dead, .int .i64 track, .int .i64 sl, .int .u64 ge, .int .i64 fr, .int .i64 ln]])) → St w0 S0 V (DvL a n sz bq E ++ X) from fun V bq E s => (dv_back (N := [BlkR qb 43 #[.int .i64 id, .int .i64 op, .int .u64 dead, .int .i64 track, .int .i64 sl, .int .u64 ge, .int .i64 fr, .int .i64 ln]]) s).drop 0 (by simp))
  obtain ⟨c0, c1, c3, c5, y0, y1, y2, y3, y4, y5, y6, y7⟩ := CE.out _ _ _ s1
  have qq := CE.out _ _ _ s1
  have K1 := Lib.hid (po.owner_o s1.drew 1 rfl hI.c.pok ho)
  have HI := Lib.hid hI
  have HZ := Lib.hid hz
  have HO := Lib.hid ho
  have HP := Lib.hid hP
  have HID := Lib.hid hid
  have HD := Lib.hid (And.intro h0 h1)
  clear H hI hz ho hP hid h0 h1 s1
  go_enter Tryz.func11, Tryz.ntmps11
  go_upto_region 1 with (fail)
  go_cut [5] (fun x5 wx => x5 = .int .i64 o ∧ St w0 S0 wx (DvL a n sz bp D ++ (X ++ [BlkR qb 43 #[.int .i64 id, .int .i64 op, .int .u64 dead, .int .i64 track, .int .i64 sl, .int .u64 ge, .int .i64 fr, .int .i64 ln]])))
  case first =>
    go_wp2_with fail
    go_region_held3 (fun w' => w'.cell? ⟨a.d, 0, none⟩ = some (ptrV a.p) ∧ w'.cell? ⟨a.d, 1, none⟩ = some (ptrV a.qb) ∧ w'.cell? ⟨a.d, 3, none⟩ = some (ptrV a.bb) ∧ w'.cell? ⟨a.d, 5, none⟩ = some (.map (some a.mo)) ∧ w'.cell? ⟨qb, 0, none⟩ = some (.int .i64 id) ∧ w'.cell? ⟨qb, 1, none⟩ = some (.int .i64 op) ∧ w'.cell? ⟨qb, 2, none⟩ = some (.int .u64 dead) ∧ w'.cell? ⟨qb, 3, none⟩ = some (.int .i64 track) ∧ w'.cell? ⟨qb, 4, none⟩ = some (.int .i64 sl) ∧ w'.cell? ⟨qb, 5, none⟩ = some (.int .u64 ge) ∧ w'.cell? ⟨qb, 6, none⟩ = some (.int .i64 fr) ∧ w'.cell? ⟨qb, 7, none⟩ = some (.int .i64 ln)) (go_keep)
      (first
        | (go_at_call 42; refine K1.out.mono ?_; rintro e w2 ⟨rfl, s2⟩; have S2 := Lib.hid (show St w0 S0 w2 (DvL a n sz bp D ++ (X ++ [BlkR qb 43 #[.int .i64 id, .int .i64 op, .int .u64 dead, .int .i64 track, .int .i64 sl, .int .u64 ge, .int .i64 fr, .int .i64 ln]])) from s2); have q2 := CE.out _ _ _ S2.out; clear s2))
    go_wp2_with fail
    go_meet
    exact ⟨rfl, S2.out⟩
  case rest =>
  clear qq c0 c1 c3 c5 y0 y1 y2 y3 y4 y5 y6 y7
  clear K1
  obtain ⟨rfl, s2⟩ := hcut
  obtain ⟨c0, c1, c3, c5, y0, y1, y2, y3, y4, y5, y6, y7⟩ := CE.out _ _ _ s2
  have qq := CE.out _ _ _ s2
  obtain ⟨b, hb⟩ : ∃ b, b = decide (mayR z c ⟨id, op, dead, track, sl, ge, fr, ln, false, false, false, false⟩) := ⟨_, rfl⟩
  have K2 := Lib.hid (mayD_o s2 HI.out.c.pok ⟨id, op, dead, track, sl, ge, fr, ln, false, false, false, false⟩ HD.out.1 HZ.out b hb)
  have HB := Lib.hid hb
  clear s2 hb
  (try dsimp only at K2)
  go_wp2_with fail
  refine K2.out.mono ?_
  rintro e w3 ⟨rfl, s3⟩
  clear qq c0 c1 c3 c5 y0 y1 y2 y3 y4 y5 y6 y7
  clear K2
  obtain ⟨c0, c1, c3, c5, y0, y1, y2, y3, y4, y5, y6, y7⟩ := CE.out _ _ _ s3
  have qq := CE.out _ _ _ s3
  have S3 := Lib.hid s3
  rcases HP.out with ⟨m1, rfl, rfl⟩ | ⟨m1, m2, rfl, rfl⟩ | ⟨m1, rfl, m3, rfl, rfl⟩ | ⟨m1, rfl, m3, q1, f1, ha, hrest⟩
  · obtain rfl : b = false := HB.out.trans (decide_eq_false m1)
    clear m1 s3
    go_wp2_with fail
    go_ret
    exact ⟨rfl, bp, DROP.out _ _ _ S3.out⟩
  · obtain rfl : b = true := HB.out.trans (decide_eq_true m1)
    have t1 : ((o : Int) != 1) = true := by simp [m2]
    clear m1 m2 s3
    go_wp2_with fail
    go_ret
    exact ⟨rfl, bp, DROP.out _ _ _ S3.out⟩
  · obtain rfl : b = true := HB.out.trans (decide_eq_true m1)
    have K3 := Lib.hid (isPosted_o s3 (fun i k hk => by obtain ⟨m, rfl, -, -⟩ := HI.out.c.psl i k hk; exact (HI.out.c.pk m k hk).1) id true ⟨fun _ => m3, fun _ => rfl⟩)
    clear m1 m3 s3
    go_wp2_with fail
    refine K3.out.mono ?_
    rintro e w4 ⟨rfl, s4⟩
    have S4 := Lib.hid s4
    clear s4 K3
    go_wp2_with fail
    go_ret
    exact ⟨rfl, bp, DROP.out _ _ _ S4.out⟩
  · obtain rfl : b = true := HB.out.trans (decide_eq_true m1)
    have K3 := Lib.hid (isPosted_o s3 (fun i k hk => by obtain ⟨m, rfl, -, -⟩ := HI.out.c.psl i k hk; exact (HI.out.c.pk m k hk).1) id false ⟨fun h => (by cases h), fun h => absurd h m3⟩)
    have HA := Lib.hid ha
    have HR := Lib.hid hrest
    have HM1 := Lib.hid m1
    have HM3 := Lib.hid m3
    clear m1 m3 s3 ha hrest
    go_wp2_with fail
    refine K3.out.mono ?_
    rintro e w4 ⟨rfl, s4⟩
    clear qq c0 c1 c3 c5 y0 y1 y2 y3 y4 y5 y6 y7
    clear K3 S3
    obtain ⟨c0, c1, c3, c5, y0, y1, y2, y3, y4, y5, y6, y7⟩ := CE.out _ _ _ s4
    have qq := CE.out _ _ _ s4
    have K4 := Lib.hid (fun (V : World) (s : St w0 S0 V (DvL a n sz bp D ++ (X ++ [BlkR qb 43 #[.int .i64 id, .int .i64 op, .int .u64 dead, .int .i64 track, .int .i64 sl, .int .u64 ge, .int .i64 fr, .int .i64 ln]]))) => od.Add_o s 2 rfl HI.out.c.qok (x := ⟨id, dead, track⟩) HD.out.1 HA.out)
    (try dsimp only at K4)
    have S4 := Lib.hid s4
    clear s4
    go_upto_region 8 with (fail)
    go_cut [8] (fun x8 wx => x8 = .int .i64 f1 ∧ St w0 S0 wx (DvL a n sz bp { D with q := q1 } ++ (X ++ [BlkR qb 43 #[.int .i64 id, .int .i64 op, .int .u64 dead, .int .i64 track, .int .i64 sl, .int .u64 ge, .int .i64 fr, .int .i64 ln]])))
    case first =>
      go_wp2_with fail
      go_region_held3 (fun w' => w'.cell? ⟨a.d, 0, none⟩ = some (ptrV a.p) ∧ w'.cell? ⟨a.d, 1, none⟩ = some (ptrV a.qb) ∧ w'.cell? ⟨a.d, 3, none⟩ = some (ptrV a.bb) ∧ w'.cell? ⟨a.d, 5, none⟩ = some (.map (some a.mo)) ∧ w'.cell? ⟨qb, 0, none⟩ = some (.int .i64 id) ∧ w'.cell? ⟨qb, 1, none⟩ = some (.int .i64 op) ∧ w'.cell? ⟨qb, 2, none⟩ = some (.int .u64 dead) ∧ w'.cell? ⟨qb, 3, none⟩ = some (.int .i64 track) ∧ w'.cell? ⟨qb, 4, none⟩ = some (.int .i64 sl) ∧ w'.cell? ⟨qb, 5, none⟩ = some (.int .u64 ge) ∧ w'.cell? ⟨qb, 6, none⟩ = some (.int .i64 fr) ∧ w'.cell? ⟨qb, 7, none⟩ = some (.int .i64 ln)) (go_keep)
        (first
          | (go_at_call 46; refine (want_c ⟨id, op, dead, track, sl, ge, fr, ln, false, false, false, false⟩ _).mono ?_; rintro e w5 ⟨rfl, hb5⟩; have S5 := Lib.hid (S4.out.drew.stay hb5); have q5 := CE.out _ _ _ S5.out; clear hb5)
          | (go_at_call 45; refine (K4.out _ S5.out).mono ?_; rintro e w6 ⟨rfl, s6⟩; have S6 := Lib.hid (show St w0 S0 w6 (DvL a n sz bp { D with q := q1 } ++ (X ++ [BlkR qb 43 #[.int .i64 id, .int .i64 op, .int .u64 dead, .int .i64 track, .int .i64 sl, .int .u64 ge, .int .i64 fr, .int .i64 ln]])) from s6); have q6 := CE.out _ _ _ S6.out; clear s6))
      go_wp2_with fail
      go_meet
      exact ⟨rfl, S6.out⟩
    case rest =>
    clear qq c0 c1 c3 c5 y0 y1 y2 y3 y4 y5 y6 y7
    clear K4 S4
    obtain ⟨rfl, s6⟩ := hcut
    obtain ⟨c0, c1, c3, c5, y0, y1, y2, y3, y4, y5, y6, y7⟩ := CE.out _ _ _ s6
    have qq := CE.out _ _ _ s6
    have S6 := Lib.hid s6
    by_cases hf1 : f1 = 0
    · subst hf1
      obtain ⟨ob, hob⟩ : ∃ ob, opnA D.b id dead = ob := ⟨_, rfl⟩
      have K5 := Lib.hid (bOpen_o s6.drew 4 rfl HID.out HD.out.1 HD.out.2)
      have HOB := Lib.hid hob
      replace K5 := Lib.hid (show _ from K5.out)
      have hob' : opnA ({ D with q := q1 } : Dv).b id dead = ob := hob
      rw [hob'] at K5
      clear s6 hob hob'
      go_upto_region 11 with (fail)
      go_cut [9] (fun x9 wx => x9 = .int .i64 ob ∧ St w0 S0 wx (DvL a n sz bp { D with q := q1, b := D.b.opn id dead } ++ (X ++ [BlkR qb 43 #[.int .i64 id, .int .i64 op, .int .u64 dead, .int .i64 track, .int .i64 sl, .int .u64 ge, .int .i64 fr, .int .i64 ln]])))
      case first =>
        go_wp2_with fail
        go_region_held3 (fun w' => w'.cell? ⟨a.d, 0, none⟩ = some (ptrV a.p) ∧ w'.cell? ⟨a.d, 1, none⟩ = some (ptrV a.qb) ∧ w'.cell? ⟨a.d, 3, none⟩ = some (ptrV a.bb) ∧ w'.cell? ⟨a.d, 5, none⟩ = some (.map (some a.mo)) ∧ w'.cell? ⟨qb, 0, none⟩ = some (.int .i64 id) ∧ w'.cell? ⟨qb, 1, none⟩ = some (.int .i64 op) ∧ w'.cell? ⟨qb, 2, none⟩ = some (.int .u64 dead) ∧ w'.cell? ⟨qb, 3, none⟩ = some (.int .i64 track) ∧ w'.cell? ⟨qb, 4, none⟩ = some (.int .i64 sl) ∧ w'.cell? ⟨qb, 5, none⟩ = some (.int .u64 ge) ∧ w'.cell? ⟨qb, 6, none⟩ = some (.int .i64 fr) ∧ w'.cell? ⟨qb, 7, none⟩ = some (.int .i64 ln)) (go_keep)
          (first
            | (go_at_call 47; refine K5.out.mono ?_; rintro e w7 ⟨rfl, s7⟩; have S7 := Lib.hid (show St w0 S0 w7 (DvL a n sz bp { D with q := q1, b := D.b.opn id dead } ++ (X ++ [BlkR qb 43 #[.int .i64 id, .int .i64 op, .int .u64 dead, .int .i64 track, .int .i64 sl, .int .u64 ge, .int .i64 fr, .int .i64 ln]])) from s7); have q7 := CE.out _ _ _ S7.out; clear s7))
        go_wp2_with fail
        go_meet
        exact ⟨rfl, S7.out⟩
      case rest =>
      clear qq c0 c1 c3 c5 y0 y1 y2 y3 y4 y5 y6 y7
      clear K5 S6
      obtain ⟨rfl, s7⟩ := hcut
      obtain ⟨c0, c1, c3, c5, y0, y1, y2, y3, y4, y5, y6, y7⟩ := CE.out _ _ _ s7
      have qq := CE.out _ _ _ s7
      by_cases hz0 : ob = 0
      · subst hz0
        obtain ⟨st', hv, hD⟩ : ∃ st', po.Via n D.st sl ge (po.GiveB 1 2) f st' ∧ D' = Dv.newR { D with q := q1, b := D.b.opn id dead, st := st' } id ⟨id, op, dead, track, sl, ge, fr, ln, false, false, false, false⟩ := by
          rcases HR.out with ⟨e, -, -⟩ | ⟨-, e, -, -⟩ | ⟨-, -, st', h1, h2⟩
          · exact absurd rfl e
          · exact absurd HOB.out e
          · exact ⟨st', h1, h2⟩
        have HV := Lib.hid hv
        have HDD := Lib.hid hD
        have s8 : St w0 S0 (wc.alloc (.cells #[.int .i64 id, .int .i64 op, .int .u64 dead, .int .i64 track, .int .i64 sl, .int .u64 ge, .int .i64 fr, .int .i64 ln, .bool false, .bool false, .bool false, .bool false] 119)).drew (DvL a n sz bp { D with q := q1, b := D.b.opn id dead } ++ ((X ++ [BlkR qb 43 #[.int .i64 id, .int .i64 op, .int .u64 dead, .int .i64 track, .int .i64 sl, .int .u64 ge, .int .i64 fr, .int .i64 ln]]) ++ [BlkR wc.heap.size 119 (Rq.cells ⟨id, op, dead, track, sl, ge, fr, ln, false, false, false, false⟩)])) := by rw [← List.append_assoc]; exact (s7.box _ _).drew
        have qd := CE.out _ _ _ (s7.alloc (.cells #[.int .i64 id, .int .i64 op, .int .u64 dead, .int .i64 track, .int .i64 sl, .int .u64 ge, .int .i64 fr, .int .i64 ln, .bool false, .bool false, .bool false, .bool false] 119)).drew
        obtain ⟨g0, g1, g3, g5, v0, v1, v2, v3, v4, v5, v6, v7⟩ := qd
        obtain ⟨gb, hgb⟩ : ∃ gb, wc.heap.size = gb := ⟨_, rfl⟩
        rw [hgb] at s8
        have MZ := Lib.hid (s8.mapi 5 rfl)
        have NX := Lib.hid (show D.nx < maxLen by have := HI.out.c.cap; unfold maxLen; omega)
        have PUT := Lib.hid (show ∀ w4, MapI w4 Tryz.prog 3 a.mo (D.nx + 1) (updI (reqM bp D.opn) id (some (ptrV gb))) → (wc.alloc (.cells #[.int .i64 id, .int .i64 op, .int .u64 dead, .int .i64 track, .int .i64 sl, .int .u64 ge, .int .i64 fr, .int .i64 ln, .bool false, .bool false, .bool false, .bool false] 119)).drew.grownBy w4 (some a.mo) → St w0 S0 w4 (DvL a n sz (bpN bp D.nx gb) (Dv.newR { D with q := q1, b := D.b.opn id dead } id ⟨id, op, dead, track, sl, ge, fr, ln, false, false, false, false⟩) ++ (X ++ [BlkR qb 43 #[.int .i64 id, .int .i64 op, .int .u64 dead, .int .i64 track, .int .i64 sl, .int .u64 ge, .int .i64 fr, .int .i64 ln]])) from fun w4 hm4 hg4 => by
          have h := s8.map_turn 5 rfl hm4 hg4
          exact dv_new (D := { D with q := q1, b := D.b.opn id dead }) (Y := X ++ [BlkR qb 43 #[.int .i64 id, .int .i64 op, .int .u64 dead, .int .i64 track, .int .i64 sl, .int .u64 ge, .int .i64 fr, .int .i64 ln]]) h (fun i k hk => by obtain ⟨m, rfl, -, -⟩ := HI.out.c.psl i k hk; exact (HI.out.c.pk m k hk).1) (fun i k hk => ((HI.out.c.opn i k).1 hk).1))
        obtain ⟨w4, hput, hm4, hg4⟩ := mapI_put_run (t := 106) (e := 117) MZ.out Tryz.underlying3 Tryz.underlying106 NX.out HID.out (ptrV gb)
        have T4 := Lib.hid (PUT.out w4 hm4 hg4)
        clear hv hD s7 s8 hm4 hg4 MZ PUT
        go_upto_region 15 with (fail)
        go_cut [] (fun wx => St w0 S0 wx (DvL a n sz (bpN bp D.nx gb) (Dv.newR { D with q := q1, b := D.b.opn id dead } id ⟨id, op, dead, track, sl, ge, fr, ln, false, false, false, false⟩) ++ (X ++ [BlkR qb 43 #[.int .i64 id, .int .i64 op, .int .u64 dead, .int .i64 track, .int .i64 sl, .int .u64 ge, .int .i64 fr, .int .i64 ln]])))
        case first =>
          go_wp2_with fail
          go_region
          all_goals
            go_wp2_with fail
            go_meet
            exact T4.out
        case rest =>
        clear qq c0 c1 c3 c5 y0 y1 y2 y3 y4 y5 y6 y7
        clear T4 hput g0 g1 g3 g5 v0 v1 v2 v3 v4 v5 v6 v7
        have s9 := hcut
        obtain ⟨c0, c1, c3, c5, y0, y1, y2, y3, y4, y5, y6, y7⟩ := CE.out _ _ _ s9
        have qq := CE.out _ _ _ s9
        have K7 := Lib.hid (po.give_o s9.drew 1 rfl HI.out.c.pok HV.out)
        clear hcut s9
        go_wp2_with fail
        go_region_held3 (fun w' => w'.cell? ⟨a.d, 0, none⟩ = some (ptrV a.p) ∧ w'.cell? ⟨a.d, 1, none⟩ = some (ptrV a.qb) ∧ w'.cell? ⟨a.d, 3, none⟩ = some (ptrV a.bb) ∧ w'.cell? ⟨a.d, 5, none⟩ = some (.map (some a.mo)) ∧ w'.cell? ⟨qb, 0, none⟩ = some (.int .i64 id) ∧ w'.cell? ⟨qb, 1, none⟩ = some (.int .i64 op) ∧ w'.cell? ⟨qb, 2, none⟩ = some (.int .u64 dead) ∧ w'.cell? ⟨qb, 3, none⟩ = some (.int .i64 track) ∧ w'.cell? ⟨qb, 4, none⟩ = some (.int .i64 sl) ∧ w'.cell? ⟨qb, 5, none⟩ = some (.int .u64 ge) ∧ w'.cell? ⟨qb, 6, none⟩ = some (.int .i64 fr) ∧ w'.cell? ⟨qb, 7, none⟩ = some (.int .i64 ln)) (go_keep)
          (first
            | (go_at_call 49; refine K7.out.mono ?_; rintro e w10 ⟨rfl, s10⟩; have S10 := Lib.hid (show St w0 S0 w10 (DvL a n sz (bpN bp D.nx gb) (Dv.newR { D with q := q1, b := D.b.opn id dead, st := st' } id ⟨id, op, dead, track, sl, ge, fr, ln, false, false, false, false⟩) ++ (X ++ [BlkR qb 43 #[.int .i64 id, .int .i64 op, .int .u64 dead, .int .i64 track, .int .i64 sl, .int .u64 ge, .int .i64 fr, .int .i64 ln]])) from s10); have q10 := CE.out _ _ _ S10.out; clear s10))
        go_wp2_with fail
        go_ret
        exact ⟨rfl, bpN bp D.nx gb, by rw [HDD.out]; exact DROP.out _ _ _ S10.out⟩
      · obtain ⟨rfl, rfl⟩ : f = ob ∧ D' = D := by
          rcases HR.out with ⟨e, -, -⟩ | ⟨-, -, e1, e2⟩ | ⟨-, e, -⟩
          · exact absurd rfl e
          · exact ⟨e1.trans HOB.out, e2⟩
          · exact absurd (HOB.out.symm.trans e) hz0
        obtain ⟨f2, q2, hd⟩ := od.dropP_ex q1 id
        have hq2 : q2 = D'.q := add_drop (x := ⟨id, dead, track⟩) HA.out hd
        have hb0 : D'.b.opn id dead = D'.b := by unfold Bk.opn; rw [if_neg (by rw [HOB.out]; exact hz0)]
        have K6 := Lib.hid (od.Drop_o s7.drew 2 rfl (HA.out.ok HI.out.c.qok) hd)
        have BACK := Lib.hid (show ∀ V, St w0 S0 V (DvL a n sz bp { D' with q := q2, b := D'.b.opn id dead } ++ (X ++ [BlkR qb 43 #[.int .i64 id, .int .i64 op, .int .u64 dead, .int .i64 track, .int .i64 sl, .int .u64 ge, .int .i64 fr, .int .i64 ln]])) → St w0 S0 V (DvL a n sz bp D' ++ (X ++ [BlkR qb 43 #[.int .i64 id, .int .i64 op, .int .u64 dead, .int .i64 track, .int .i64 sl, .int .u64 ge, .int .i64 fr, .int .i64 ln]])) from fun V s => by rw [hq2, hb0] at s; exact s)
        have t1 : (f != 0) = true := by simp [hz0]
        clear hz0 hd hq2 hb0 s7
        go_wp2_with fail
        go_region_held3 (fun w' => w'.cell? ⟨a.d, 0, none⟩ = some (ptrV a.p) ∧ w'.cell? ⟨a.d, 1, none⟩ = some (ptrV a.qb) ∧ w'.cell? ⟨a.d, 3, none⟩ = some (ptrV a.bb) ∧ w'.cell? ⟨a.d, 5, none⟩ = some (.map (some a.mo)) ∧ w'.cell? ⟨qb, 0, none⟩ = some (.int .i64 id) ∧ w'.cell? ⟨qb, 1, none⟩ = some (.int .i64 op) ∧ w'.cell? ⟨qb, 2, none⟩ = some (.int .u64 dead) ∧ w'.cell? ⟨qb, 3, none⟩ = some (.int .i64 track) ∧ w'.cell? ⟨qb, 4, none⟩ = some (.int .i64 sl) ∧ w'.cell? ⟨qb, 5, none⟩ = some (.int .u64 ge) ∧ w'.cell? ⟨qb, 6, none⟩ = some (.int .i64 fr) ∧ w'.cell? ⟨qb, 7, none⟩ = some (.int .i64 ln)) (go_keep)
          (first
            | (go_at_call 48; refine K6.out.mono ?_; rintro e w8 ⟨rfl, s8⟩; have S8 := Lib.hid (BACK.out _ s8); have q8 := CE.out _ _ _ S8.out; clear s8))
        go_wp2_with fail
        go_ret
        exact ⟨rfl, bp, DROP.out _ _ _ S8.out⟩
    · obtain ⟨rfl, rfl⟩ : f = f1 ∧ D' = D := by
        rcases HR.out with ⟨-, e1, e2⟩ | ⟨e, -⟩ | ⟨e, -⟩
        · exact ⟨e1, e2⟩
        · exact absurd e hf1
        · exact absurd e hf1
      have hq : q1 = D'.q := by
        rcases HA.out with ⟨-, -, e⟩ | ⟨-, -, -, e⟩ | ⟨-, -, -, -, e⟩ | ⟨-, -, -, e, -⟩
        · exact e
        · exact e
        · exact e
        · exact absurd e hf1
      subst hq
      have t1 : (f != 0) = true := by simp [hf1]
      clear hf1 s6
      go_wp2_with fail
      go_ret
      exact ⟨rfl, bp, DROP.out _ _ _ S6.out⟩
end
end Go.Proofs.YtdjhpdacglojaaaGreat
