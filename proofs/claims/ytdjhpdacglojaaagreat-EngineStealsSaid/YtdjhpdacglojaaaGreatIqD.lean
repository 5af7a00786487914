/- Layer 20: a device: Reap. Layer 20: a device: the want of a request; who is in the ring. -/
import Derived.Test.YtdjhpdacglojaaaGreatIqA
namespace Go.Proofs.YtdjhpdacglojaaaGreat
open Go.RowKit
section
set_option linter.unusedVariables false
set_option maxRecDepth 100000
set_option maxHeartbeats 4000000
section
variable {w0 w w' : World} {S0 : Nat → Prop} {X N : List Res} {a : Da} {n sz : Nat} {bp : Nat → Nat} {D : Dv} {k : Nat} {G f f2 c : Int} {q' : od.OSt} {g' : ri.RSt} {st' : Nat → po.Buf}
/-- Once the first one was reaped. -/
def Dv.rpD (D : Dv) (f : Int) (g' : ri.RSt) (k : Nat) (stt : Int) (q' : od.OSt) (st' : Nat → po.Buf) : Dv :=
  if f = 0 then
    (if (D.rq k).vo = true then { D with g := g', pst := updK D.pst (D.g.reaped : Int) none } else Dv.outD { D with g := g', pst := updK D.pst (D.g.reaped : Int) none, b := D.b.ans (D.rq k).id stt (D.rq k).bd } k q' st')
  else D
theorem rpD_o (H : St w0 S0 w (DvL a n sz bp D ++ X)) (hg : D.g.ok sz) (hqo : D.q.ok) (ok : po.POK n D.st G) {d : ri.Dsc} (hP : ri.ReapP D.g d f g') (hput : g'.put = D.g.put) (hsame : f ≠ 0 → g' = D.g) (hun : D.b.un.length ≤ 100000)
    (hk : f = 0 → D.pst (D.g.reaped : Int) = some k ∧ k < D.nx ∧ wfI (D.rq k).id ∧ ((D.rq k).vo = false → od.DropP D.q (D.rq k).id f2 q' ∧ po.Via n D.st (D.rq k).slot (D.rq k).gen (po.GiveB (if (D.rq k).tk then 3 else 2) 1) c st')) :
    Calls Tryz.prog 18 #[ptrV a.d] w fun e w' => e = .returned (.tuple #[.int .i64 (if f = 0 then d.req else 0), .int .i64 f]) ∧ St w0 S0 w' (DvL a n sz bp (D.rpD f g' k d.st q' st') ++ X) := by
  obtain ⟨d0, d1, d2, d3, -⟩ := (dv_cells H).seven
  have K0 := Lib.hid (ri.Counts_o H 3 rfl)
  have K1 := Lib.hid (fun w (H : St w0 S0 w (DvL a n sz bp D ++ X)) => ri.Reap_o H 3 rfl hg d f hP)
  have DC := Lib.hid (fun w (H : St w0 S0 w (DvL a n sz bp D ++ X)) => (dv_cells H).seven)
  have hm := hg.m
  have h1 := hg.r
  have h2 := hg.t
  obtain ⟨no, hno⟩ : ∃ no : Int, (D.g.reaped : Int) = no := ⟨_, rfl⟩
  have HWN := Lib.hid (show wfI no from wf_small (by omega) (by omega))
  rw [hno] at K0 hk
  have HNO := Lib.hid hno
  have HK := Lib.hid hk
  have HPUT := Lib.hid hput
  have HSAME := Lib.hid hsame
  have HQO := Lib.hid hqo
  have OK := Lib.hid ok
  unfold ri.Dsc.v at K1
  clear H hP hno hk hput hsame hqo ok hg
  by_cases hf : f = 0
  · subst hf
    obtain ⟨hps, hkn, hid, hcom⟩ := HK.out rfl
    have HPS := Lib.hid hps
    have HID := Lib.hid hid
    have HCOM := Lib.hid hcom
    clear HK hps hid hcom HSAME
    go_enter Tryz.func18, Tryz.ntmps18
    go_wp2_with fail
    refine K0.out.mono ?_
    rintro e w1 ⟨rfl, s1⟩
    have K2 := Lib.hid (K1.out w1 s1)
    obtain ⟨e0, e1, e2, -⟩ := DC.out w1 s1
    clear s1 K0 K1 DC d0 d1 d2 d3
    go_wp2_with fail
    refine K2.out.mono ?_
    rintro e w2 ⟨rfl, s2⟩
    have s2 : St w0 S0 w2 (DvL a n sz bp { D with g := g' } ++ X) := by
      have h : St w0 S0 w2 (DvL a n sz bp D ++ X |>.set 3 (ri.RingR a.rb sz g')) := s2
      unfold DvL at h ⊢
      dsimp only at h ⊢
      rw [HPUT.out]
      exact h
    have s3 : St w0 S0 (w2.alloc (.cells #[.int .i64 d.op, .int .i64 d.req, .int .i64 d.slot, .int .u64 d.gen, .int .i64 d.frm, .int .i64 d.len, .bool d.dv, .bool d.dn, .int .i64 d.st] 135)) (DvL a n sz bp { D with g := g' } ++ (X ++ [BlkR w2.heap.size 135 d.cells])) := by
      have h := s2.box 135 d.cells
      rw [List.append_assoc] at h; exact h
    obtain ⟨lb, hlb⟩ : ∃ lb, w2.heap.size = lb := ⟨_, rfl⟩
    rw [hlb] at s3
    obtain ⟨g0, g1, g2, g3, g4, g5, g6⟩ := (dv_cells s3).seven
    have MI := Lib.hid (s3.mapi 6 rfl)
    have LK := (s3.mapi 6 rfl).look1 (t := 106) (e := 117) Tryz.underlying3 Tryz.underlying106 (zeroP _) HWN.out
    rw [show (reqM bp ({ D with g := g' } : Dv).pst no).getD (.pointer none) = ptrV (bp k) by unfold reqM; show ((D.pst no).map _).getD _ = _; rw [HPS.out]; rfl] at LK
    have S3 := Lib.hid s3
    clear s2 s3 K2 e0 e1 e2
    have LB := Lib.hid (show ∀ (W : World) (E : Dv), St w0 S0 W (DvL a n sz bp E ++ (X ++ [BlkR lb 135 d.cells])) → W.cell? ⟨lb, 1, none⟩ = some (.int .i64 d.req) ∧ W.cell? ⟨lb, 7, none⟩ = some (.bool d.dn) ∧ W.cell? ⟨lb, 8, none⟩ = some (.int .i64 d.st) from fun W E s => by
      obtain ⟨_, v1, _, _, _, _, _, v7, v8⟩ := ri.dsc9 d _ lb ((dv_back (N := [BlkR lb 135 d.cells]) s).blk 0 rfl)
      exact ⟨v1, v7, v8⟩)
    have TURN := Lib.hid (show ∀ w4, MapI w4 Tryz.prog 3 a.mp g'.put (updI (reqM bp ({ D with g := g' } : Dv).pst) no none) → (w2.alloc (.cells #[.int .i64 d.op, .int .i64 d.req, .int .i64 d.slot, .int .u64 d.gen, .int .i64 d.frm, .int .i64 d.len, .bool d.dv, .bool d.dn, .int .i64 d.st] 135)).grownBy w4 (some a.mp) → St w0 S0 w4 (DvL a n sz bp { D with g := g', pst := updK D.pst no none } ++ (X ++ [BlkR lb 135 d.cells])) from fun w4 hm4 hg4 => by
      have h := S3.out.map_turn 6 rfl hm4 hg4
      have e := reqM_upd bp D.pst no none
      rw [Option.map_none] at e
      rw [show reqM bp ({ D with g := g' } : Dv).pst = reqM bp D.pst from rfl, e] at h
      exact h)
    have DROP := Lib.hid (show ∀ (W : World) (E : Dv), St w0 S0 W (DvL a n sz bp E ++ (X ++ [BlkR lb 135 d.cells])) → St w0 S0 W (DvL a n sz bp E ++ X) from fun W E s => (dv_back (N := [BlkR lb 135 d.cells]) s).drop 0 (by simp))
    obtain ⟨vo, hvo⟩ : ∃ vo, (D.rq k).vo = vo := ⟨_, rfl⟩
    have HVO := Lib.hid hvo
    clear hvo
    cases vo with
    | true =>
      have FD := Lib.hid (show D.rpD 0 g' k d.st q' st' = { D with g := g', pst := updK D.pst no none } by unfold Dv.rpD; rw [if_pos rfl, if_pos HVO.out, HNO.out])
      go_wp2_with (at_delete; refine wpList_mapI_del rfl _ _ 106 3 rfl 117 Tryz.underlying3 Tryz.underlying106 a.mp g'.put _ rfl MI.out no HWN.out rfl ?_; intro w4 hm4 hg4; have s4 := TURN.out w4 hm4 hg4; have c11 : w4.cell? ⟨bp k, 11, none⟩ = some (.bool true) := by { have h := (dv_req s4 hkn).cell 11; rw [h, ← HVO.out]; rfl }; have l1 := (LB.out _ _ s4).1; have S4 := Lib.hid s4; clear hm4 hg4 s4)
      go_ret2
      exact ⟨rfl, by rw [FD.out]; exact DROP.out _ _ S4.out⟩
    | false =>
      have FD := Lib.hid (show D.rpD 0 g' k d.st q' st' = Dv.outD { D with g := g', pst := updK D.pst no none, b := D.b.ans (D.rq k).id d.st (D.rq k).bd } k q' st' by unfold Dv.rpD; rw [if_pos rfl, if_neg (by rw [HVO.out]; decide), HNO.out])
      obtain ⟨hq, hgv⟩ := HCOM.out HVO.out
      have HGV := Lib.hid hgv
      obtain ⟨id, hid⟩ : ∃ id, (D.rq k).id = id := ⟨_, rfl⟩
      obtain ⟨bd, hbd⟩ : ∃ bd, (D.rq k).bd = bd := ⟨_, rfl⟩
      have HI := Lib.hid hid
      have HB := Lib.hid hbd
      have HQ := Lib.hid (show od.DropP D.q id f2 q' by rw [← hid]; exact hq)
      clear HCOM hq hgv hid hbd
      go_upto_region 8 with (at_delete; refine wpList_mapI_del rfl _ _ 106 3 rfl 117 Tryz.underlying3 Tryz.underlying106 a.mp g'.put _ rfl MI.out no HWN.out rfl ?_; intro w4 hm4 hg4; have s4 := TURN.out w4 hm4 hg4; have c11 : w4.cell? ⟨bp k, 11, none⟩ = some (.bool false) := by { have h := (dv_req s4 hkn).cell 11; rw [h, ← HVO.out]; rfl }; have l1 := (LB.out _ _ s4).1; have S4 := Lib.hid s4; clear hm4 hg4 s4)
      have CE := Lib.hid (show ∀ (W : World) (E : Dv), St w0 S0 W (DvL a n sz bp E ++ (X ++ [BlkR lb 135 d.cells])) → E.nx = D.nx → E.rq k = D.rq k → W.cell? ⟨a.d, 3, none⟩ = some (ptrV a.bb) ∧ W.cell? ⟨bp k, 0, none⟩ = some (.int .i64 id) ∧ W.cell? ⟨lb, 8, none⟩ = some (.int .i64 d.st) ∧ W.cell? ⟨bp k, 10, none⟩ = some (.bool bd) from fun W E s hn he => by
        have h0 := (dv_req s (by rw [hn]; exact hkn)).cell 0
        have h10 := (dv_req s (by rw [hn]; exact hkn)).cell 10
        rw [he] at h0 h10
        refine ⟨(dv_cells s).seven.2.2.2.1, ?_, (LB.out _ _ s).2.2, ?_⟩
        · rw [h0, ← HI.out]; rfl
        · rw [h10, ← HB.out]; rfl)
      obtain ⟨y0, y1, y2, y3⟩ := CE.out w4 _ S4.out rfl rfl
      have qq := And.intro y0 (And.intro y1 (And.intro y2 y3))
      have K5 := Lib.hid (bAnswer_o (id := id) S4.out.drew 4 rfl (by rw [← HI.out]; exact HID.out) hun d.st bd)
      clear c11
      go_wp2_with fail
      go_region_held3 (fun w' => w'.cell? ⟨a.d, 3, none⟩ = some (ptrV a.bb) ∧ w'.cell? ⟨bp k, 0, none⟩ = some (.int .i64 id) ∧ w'.cell? ⟨lb, 8, none⟩ = some (.int .i64 d.st) ∧ w'.cell? ⟨bp k, 10, none⟩ = some (.bool bd)) (go_keep)
        (first
          | (go_at_call 71; refine K5.out.mono ?_; rintro e w5 ⟨rfl, s5⟩; have S5 := Lib.hid (show St w0 S0 w5 (DvL a n sz bp { D with g := g', pst := updK D.pst no none, b := D.b.ans id d.st bd } ++ (X ++ [BlkR lb 135 d.cells])) from s5); have q5 := CE.out w5 _ S5.out rfl rfl; clear s5))
      have K6 := Lib.hid (outD_o (k := k) (f := f2) (c := c) (q' := q') (st' := st') S5.out hkn HID.out HQO.out OK.out (by show od.DropP D.q (D.rq k).id f2 q'; rw [HI.out]; exact HQ.out) HGV.out)
      clear q5 qq y0 y1 y2 y3 K5 l1
      go_wp2_with fail
      refine K6.out.mono ?_
      rintro e w6 ⟨rfl, s6⟩
      have l1 := (LB.out _ _ s6).1
      have S6 := Lib.hid (DROP.out _ _ s6)
      clear s6 K6
      go_wp2_with fail
      go_ret2
      exact ⟨rfl, by rw [FD.out, HI.out, HB.out]; exact S6.out⟩
  · have z : (f != 0) = true := by simp [hf]
    have FD := Lib.hid (show D.rpD f g' k d.st q' st' = D from if_neg hf)
    have HF := Lib.hid hf
    have HG := Lib.hid (HSAME.out hf)
    clear hf HK HSAME
    go_enter Tryz.func18, Tryz.ntmps18
    go_wp2_with fail
    refine K0.out.mono ?_
    rintro e w1 ⟨rfl, s1⟩
    have K2 := Lib.hid (K1.out w1 s1)
    obtain ⟨e0, e1, e2, -⟩ := DC.out w1 s1
    clear s1 K0 K1 DC d0 d1 d2 d3
    go_wp2_with fail
    refine K2.out.mono ?_
    rintro e w2 ⟨rfl, s2⟩
    have S2 := Lib.hid (show St w0 S0 w2 (DvL a n sz bp D ++ X) by
      have h : St w0 S0 w2 (DvL a n sz bp D ++ X |>.set 3 (ri.RingR a.rb sz g')) := s2
      rw [HG.out] at h
      rwa [set_same rfl] at h)
    clear s2 K2
    go_wp2_with fail
    go_ret2
    refine ⟨by first | rfl | simp [HF.out], ?_⟩
    rw [FD.out]; exact S2.out.alloc _
end
end
section
set_option linter.unusedVariables false
set_option maxRecDepth 100000
set_option maxHeartbeats 4000000
theorem below_grown {w0 w w' : World} {r : Nat} (h : Below w0.heap.size w0 w) (hg : w.grownBy w' (some r)) (hr : w0.heap.size ≤ r) : Below w0.heap.size w0 w' :=
  ⟨hg.os.trans h.os, hg.tape.trans h.tape, hg.output.trans h.output, Nat.le_trans h.size hg.size, fun j hj => (hg.block j (Nat.lt_of_lt_of_le hj h.size) (fun e => by injection e with e; omega)).trans (h.block j hj)⟩
theorem below_none {w0 w w' : World} (h : Below w0.heap.size w0 w) (hg : w.grownBy w' none) : Below w0.heap.size w0 w' :=
  ⟨hg.os.trans h.os, hg.tape.trans h.tape, hg.output.trans h.output, Nat.le_trans h.size hg.size, fun j hj => (hg.block j (Nat.lt_of_lt_of_le hj h.size) (by simp)).trans (h.block j hj)⟩
section
variable {w0 w w' : World} {S0 : Nat → Prop} {X N : List Res} {a : Da} {n sz : Nat} {bp : Nat → Nat} {D : Dv} {k : Nat}
theorem want_c (r : Rq) (w : World) : Calls Tryz.prog 46 #[.agg r.req] w fun e w' => e = .returned (.agg #[.int .i64 r.id, .int .u64 r.dead, .int .i64 r.track]) ∧ Below w.heap.size w w' := by
  have s1 : St w None (w.alloc (.cells r.req 43)) [BlkR w.heap.size 43 r.req] := (St.begin w).box 43 r.req
  obtain ⟨qb, hqb⟩ : ∃ qb, (w.alloc (.cells r.req 43)).heap.size = qb := ⟨_, rfl⟩
  have s3 : St w None ((w.alloc (.cells r.req 43)).alloc (.cells #[.int .i64 r.id, .int .u64 r.dead, .int .i64 r.track] 114)) [BlkR w.heap.size 43 r.req, BlkR qb 114 #[.int .i64 r.id, .int .u64 r.dead, .int .i64 r.track]] := by rw [← hqb]; exact s1.box 114 #[.int .i64 r.id, .int .u64 r.dead, .int .i64 r.track]
  have c0 : (w.alloc (.cells r.req 43)).cell? ⟨w.heap.size, 0, none⟩ = some (.int .i64 r.id) := (s1.blk 0 rfl).cell 0
  have c2 : (w.alloc (.cells r.req 43)).cell? ⟨w.heap.size, 2, none⟩ = some (.int .u64 r.dead) := (s1.blk 0 rfl).cell 2
  have c3 : (w.alloc (.cells r.req 43)).cell? ⟨w.heap.size, 3, none⟩ = some (.int .i64 r.track) := (s1.blk 0 rfl).cell 3
  obtain ⟨v0, v1, v2⟩ := (s3.blk 1 rfl).three
  have S3 := Lib.hid s3.below
  clear s1 s3
  go_enter Tryz.func46, Tryz.ntmps46
  go_wp2_with fail
  refine bodyPost_ret (v := .agg #[.int .i64 r.id, .int .u64 r.dead, .int .i64 r.track]) ?_ rfl ⟨rfl, S3.out⟩
  simp [results, go_sem, v0, v1, v2]
theorem reqM_inv {M : Int → Option Nat} {i : Int} {v : Value} (h : reqM bp M i = some v) : ∃ k, M i = some k ∧ v = ptrV (bp k) := by
  unfold reqM at h
  cases hM : M i with
  | none => rw [hM] at h; cases h
  | some k => rw [hM] at h; injection h with h; exact ⟨k, rfl, h.symm⟩
/-- Whether a request of a number is in the ring. -/
theorem isPosted_o (H : St w0 S0 w (DvL a n sz bp D ++ X)) (hl : ∀ i k, D.pst i = some k → k < D.nx) (id : Int) (b : Bool) (hb : b = true ↔ ∃ i k, wfI i ∧ D.pst i = some k ∧ (D.rq k).id = id) :
    Calls Tryz.prog 44 #[ptrV a.d, .int .i64 id] w fun e w' => e = .returned (.bool b) ∧ St w0 S0 w' (DvL a n sz bp D ++ X) := by
  obtain ⟨d0, d1, d2, d3, d4, d5, d6⟩ := (dv_cells H).seven
  have SH := Lib.hid H
  have MP := Lib.hid (H.mapi 6 rfl)
  have HL := Lib.hid hl
  have HB := Lib.hid hb
  obtain ⟨mn, hmn⟩ : ∃ mn, D.g.put = mn := ⟨_, rfl⟩
  rw [hmn] at MP
  clear H hl hb d0 d1 d2 d3 d4 d5 hmn
  go_enter Tryz.func44, Tryz.ntmps44
  go_wp2_with (first
    | (at_range; refine wpList_mapI_range rfl _ 106 rfl 3 117 Tryz.underlying3 Tryz.underlying106 a.mp mn (reqM bp D.pst) rfl MP.out ?_; intro w1 cnt0 hit0 hg0 hsz0)
    | fail)
  go_frame
  have HB0 := Lib.hid (below_none (Below.refl _ _) hg0)
  have HI0 := Lib.hid hit0
  clear hit0 hg0 hsz0 d6
  go_loopw [6] (fun _ wr => ∃ (left : Int → Bool) (cnt : Nat), IterI wr Tryz.prog 3 a.mp w.heap.size mn (reqM bp D.pst) left cnt ∧ Below w.heap.size w wr ∧ (∀ i, wfI i → (∃ k, D.pst i = some k ∧ (D.rq k).id = id) → left i = true)) (fun _ wr => wr.rangeLeft a.mp w.heap.size)
  case atStart => exact ⟨_, _, HI0.out, HB0.out, fun i _ ⟨k, hk, _⟩ => by show (reqM bp D.pst i).isSome = true; unfold reqM; rw [hk]; rfl⟩
  case round =>
  clear HI0 HB0
  obtain ⟨left, cnt, hit, hbr, hle⟩ := hrel
  have HBR := Lib.hid hbr
  have HLE := Lib.hid hle
  have HIT := Lib.hid hit
  clear hbr hle hit
  go_wp2_with (first
    | (at_next; refine wpList_mapI_next rfl _ rfl 3 Tryz.underlying3 a.mp w.heap.size mn (reqM bp D.pst) left cnt rfl HIT.out ?_ ?_)
    | fail)
  · intro _ hl0
    have HL0 := Lib.hid hl0
    clear hl0
    obtain rfl : b = false := by
      cases b with
      | false => rfl
      | true =>
        obtain ⟨i, k, hi, hk, hid⟩ := HB.out.1 rfl
        have h1 := HLE.out i hi ⟨k, hk, hid⟩
        rw [HL0.out i hi] at h1; cases h1
    go_wp2_with fail
    go_ret
    exact ⟨rfl, SH.out.stay HBR.out⟩
  · intro x v w1 cnt1 hwx hlx hat hit1 hlt hg1 hs1 hen
    obtain ⟨k, hk, rfl⟩ := reqM_inv hat
    have hkn := HL.out x k hk
    have hb1 := below_grown HBR.out hg1 (Nat.le_refl _)
    obtain ⟨y, hy⟩ : ∃ y, (D.rq k).id = y := ⟨_, rfl⟩
    have c0 : w1.cell? ⟨bp k, 0, none⟩ = some (.int .i64 y) := by have h := (dv_req (SH.out.stay hb1) hkn).cell 0; rw [h, ← hy]; rfl
    have HB1 := Lib.hid hb1
    have HI1 := Lib.hid hit1
    have HLT := Lib.hid hlt
    have HW := Lib.hid (And.intro hwx (And.intro hk hy))
    clear hlx hat hg1 hs1 hk hb1 hit1 hlt hwx hy
    by_cases he : y = id
    · have z : (y == id) = true := beq_iff_eq.2 he
      obtain rfl : b = true := HB.out.2 ⟨x, k, HW.out.1, HW.out.2.1, HW.out.2.2.trans he⟩
      clear he
      go_wp2_with fail
      go_ret
      exact ⟨rfl, SH.out.stay HB1.out⟩
    · have z : (y == id) = false := beq_eq_false_iff_ne.2 he
      have HNE := Lib.hid (show ∀ j, (∃ k, D.pst j = some k ∧ (D.rq k).id = id) → j ≠ x from fun j ⟨k', h1, h2⟩ e => by
        subst e
        rw [HW.out.2.1] at h1
        injection h1 with h1
        subst h1
        exact he (HW.out.2.2.symm.trans h2))
      clear he
      go_wp2_with fail
      go_roundw
      case rel => exact ⟨_, cnt1, HI1.out, HB1.out, fun j hw hj => by
        have h1 := HLE.out j hw hj
        have h2 := HNE.out j hj
        simp [h1]; omega⟩
      case measure => rw [HI1.out.left_eq, HIT.out.left_eq]; exact HLT.out
end
end
end Go.Proofs.YtdjhpdacglojaaaGreat
