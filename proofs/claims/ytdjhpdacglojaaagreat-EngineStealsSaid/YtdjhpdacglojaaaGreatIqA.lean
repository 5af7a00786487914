/- Layer 20: a device: a request comes out; how many are in the ring; who is. Layer 20: a device: how many are in the ring; Finish; Cancel. Layer 20: a device: Take. -/
import Derived.Test.YtdjhpdacglojaaaGreatIoqM
import Derived.Deep.RegionHeld3
import Derived.Deep.RegionLaw
import Derived.Deep.DeepCutAuto
import Derived.Deep.CutBlock
namespace Go.Proofs.YtdjhpdacglojaaaGreat
open Go.RowKit
section
set_option linter.unusedVariables false
set_option maxRecDepth 100000
set_option maxHeartbeats 4000000
section
variable {w0 w w' : World} {S0 : Nat → Prop} {X : List Res} {a : Da} {n sz : Nat} {bp : Nat → Nat} {D : Dv} {k : Nat} {G f c : Int} {q' : od.OSt} {st' : Nat → po.Buf}
/-- Once a request has come out. -/
def Dv.outD (D : Dv) (k : Nat) (q' : od.OSt) (st' : Nat → po.Buf) : Dv := { D with q := q', st := st', opn := updK D.opn (D.rq k).id none, rq := updR D.rq k { D.rq k with vo := true } }
theorem outD_o (H : St w0 S0 w (DvL a n sz bp D ++ X)) (hk : k < D.nx) (hid : wfI (D.rq k).id) (hqo : D.q.ok) (ok : po.POK n D.st G) (hq : od.DropP D.q (D.rq k).id f q') (hg : po.Via n D.st (D.rq k).slot (D.rq k).gen (po.GiveB (if (D.rq k).tk then 3 else 2) 1) c st') :
    Calls Tryz.prog 72 #[ptrV a.d, ptrV (bp k)] w fun e w' => e = .returned (.tuple #[]) ∧ St w0 S0 w' (DvL a n sz bp (D.outD k q' st') ++ X) := by
  obtain ⟨r, hr⟩ : ∃ r, D.rq k = r := ⟨_, rfl⟩
  obtain ⟨d0, d1, d2, d3, d4, d5, d6⟩ := (dv_cells H).seven
  have r0 : w.cell? ⟨bp k, 0, none⟩ = some (.int .i64 r.id) := by have h := (dv_req H hk).cell 0; rw [hr] at h; exact h
  rw [hr] at hid hq hg
  have K0 := Lib.hid (od.Drop_o H.drew 2 rfl hqo hq)
  have HR := Lib.hid hr
  have HID := Lib.hid hid
  have HG := Lib.hid hg
  have OK := Lib.hid ok
  have SH := Lib.hid H
  have FD := Lib.hid (show D.outD k q' st' = { D with q := q', st := st', opn := updK D.opn r.id none, rq := updR D.rq k { r with vo := true } } by unfold Dv.outD; rw [hr])
  have qq := And.intro d1 r0
  clear hqo hq hg ok hid hr d2 d3 d4 d6
  go_enter Tryz.func72, Tryz.ntmps72
  go_upto_region 0 with (fail)
  go_cut [] (fun wx => St w0 S0 wx (DvL a n sz bp { D with q := q' } ++ X))
  case first =>
    go_wp2_with fail
    go_region_held3 (fun w' => w'.cell? ⟨a.d, 1, none⟩ = some (ptrV a.qb) ∧ w'.cell? ⟨bp k, 0, none⟩ = some (.int .i64 r.id)) (go_keep)
      (first
        | (go_at_call 48; refine K0.out.mono ?_; rintro e w1 ⟨rfl, s1⟩; have S1 := Lib.hid (show St w0 S0 w1 (DvL a n sz bp { D with q := q' } ++ X) from s1); have q1 := And.intro (dv_cells S1.out).seven.2.1 (show w1.cell? ⟨bp k, 0, none⟩ = some (.int .i64 r.id) by have h := (dv_req S1.out hk).cell 0; rw [HR.out] at h; exact h); clear s1))
    go_wp2_with fail
    go_meet
    exact S1.out
  case rest =>
  clear SH K0 qq d0 d1 d5 r0
  obtain ⟨d0, d1, d2, d3, d4, d5, d6⟩ := (dv_cells hcut).seven
  have r0 : wc.cell? ⟨bp k, 0, none⟩ = some (.int .i64 r.id) := by have h := (dv_req hcut hk).cell 0; rw [HR.out] at h; exact h
  have S2 := Lib.hid hcut.drew
  have MZ := Lib.hid (hcut.drew.mapi 5 rfl)
  clear hcut d0 d1 d2 d3 d4 d6
  go_upto_region 1 with (fail)
  go_cut [] (fun wx => St w0 S0 wx (DvL a n sz bp { D with q := q', opn := updK D.opn r.id none } ++ X))
  case first =>
    go_wp2_with fail
    go_region_law (first
      | (refine step_mapI_del (by rfl) _ _ 106 3 (by rfl) 117 Tryz.underlying3 Tryz.underlying106 (by rfl) MZ.out r.id HID.out (by rfl) ?_; intro w3 hm3 hg3; have S3 := Lib.hid (show St w0 S0 w3 (DvL a n sz bp { D with q := q', opn := updK D.opn r.id none } ++ X) by have h := S2.out.map_turn 5 rfl hm3 hg3; have e := reqM_upd bp D.opn r.id none; rw [Option.map_none] at e; rw [e] at h; exact h); clear hm3 hg3))
    all_goals
      go_wp2_with fail
      go_meet
      exact S3.out
  case rest =>
  clear S2 MZ d5 r0
  have r11 := (dv_req hcut hk).frozen 11
  have r11c : wc.cell? ⟨bp k, 11, none⟩ = some (.bool r.vo) := by have h := (dv_req hcut hk).cell 11; rw [HR.out] at h; exact h
  have s4 := dv_set hcut hk 11 (.bool true) { r with vo := true } (by rw [HR.out]; rfl)
  have r8 := (dv_req s4 hk).cell 8
  have r4 := (dv_req s4 hk).cell 4
  have r5 := (dv_req s4 hk).cell 5
  rw [show ({ D with q := q', opn := updK D.opn r.id none, rq := updR D.rq k { r with vo := true } } : Dv).rq k = { r with vo := true } from updR_self _ _ _] at r8 r4 r5
  have S4 := Lib.hid s4
  have HE := Lib.hid (show ({ D with q := q', opn := updK D.opn r.id none, rq := updR D.rq k { r with vo := true } } : Dv).st = D.st from rfl)
  obtain ⟨e0, -⟩ := (dv_cells s4).seven
  obtain ⟨ow, how⟩ : ∃ ow : Int, (if r.tk then 3 else 2) = ow := ⟨_, rfl⟩
  rw [how] at HG
  have K1 := Lib.hid (po.give_o s4.drew 1 rfl OK.out HG.out)
  have x0 : (wc.setCell ⟨bp k, 11, none⟩ (.bool true)).cell? ⟨bp k, 8, none⟩ = some (.bool r.tk) := r8
  have x4 : (wc.setCell ⟨bp k, 11, none⟩ (.bool true)).cell? ⟨bp k, 4, none⟩ = some (.int .i64 r.slot) := r4
  have x5 : (wc.setCell ⟨bp k, 11, none⟩ (.bool true)).cell? ⟨bp k, 5, none⟩ = some (.int .u64 r.gen) := r5
  clear hcut r8 r4 r5
  go_upto_region 3 with (fail)
  generalize wc.setCell ⟨bp k, 11, none⟩ (.bool true) = wd at *
  obtain ⟨tk, htk⟩ : ∃ tk, r.tk = tk := ⟨_, rfl⟩
  rw [htk] at how x0
  cases tk with
  | true =>
    obtain rfl : ow = 3 := how.symm
    clear how htk
    have qq := And.intro e0 (And.intro x4 x5)
    go_wp2_with fail
    go_region_held3 (fun w' => w'.cell? ⟨a.d, 0, none⟩ = some (ptrV a.p) ∧ w'.cell? ⟨bp k, 4, none⟩ = some (.int .i64 r.slot) ∧ w'.cell? ⟨bp k, 5, none⟩ = some (.int .u64 r.gen)) (go_keep)
      (first
        | (go_at_call 49; refine K1.out.mono ?_; rintro e w1 ⟨rfl, s1⟩; have S5 := Lib.hid (show St w0 S0 w1 (DvL a n sz bp { D with q := q', st := st', opn := updK D.opn r.id none, rq := updR D.rq k { r with vo := true } } ++ X) from s1); have q1 := And.intro (dv_cells S5.out).seven.1 (by have h := (dv_req S5.out hk).cell 4; have h2 := (dv_req S5.out hk).cell 5; rw [show ({ D with q := q', st := st', opn := updK D.opn r.id none, rq := updR D.rq k { r with vo := true } } : Dv).rq k = { r with vo := true } from updR_self _ _ _] at h h2; exact And.intro (show w1.cell? ⟨bp k, 4, none⟩ = some (.int .i64 r.slot) from h) (show w1.cell? ⟨bp k, 5, none⟩ = some (.int .u64 r.gen) from h2)); clear s1))
    go_wp2_with fail
    refine bodyPost_end (v := .tuple #[]) ?_ rfl ⟨rfl, by rw [FD.out]; exact S5.out⟩
    simp [results, go_sem]
  | false =>
    obtain rfl : ow = 2 := how.symm
    clear how htk
    have qq := And.intro e0 (And.intro x4 x5)
    go_wp2_with fail
    go_region_held3 (fun w' => w'.cell? ⟨a.d, 0, none⟩ = some (ptrV a.p) ∧ w'.cell? ⟨bp k, 4, none⟩ = some (.int .i64 r.slot) ∧ w'.cell? ⟨bp k, 5, none⟩ = some (.int .u64 r.gen)) (go_keep)
      (first
        | (go_at_call 49; refine K1.out.mono ?_; rintro e w1 ⟨rfl, s1⟩; have S5 := Lib.hid (show St w0 S0 w1 (DvL a n sz bp { D with q := q', st := st', opn := updK D.opn r.id none, rq := updR D.rq k { r with vo := true } } ++ X) from s1); have q1 := And.intro (dv_cells S5.out).seven.1 (by have h := (dv_req S5.out hk).cell 4; have h2 := (dv_req S5.out hk).cell 5; rw [show ({ D with q := q', st := st', opn := updK D.opn r.id none, rq := updR D.rq k { r with vo := true } } : Dv).rq k = { r with vo := true } from updR_self _ _ _] at h h2; exact And.intro (show w1.cell? ⟨bp k, 4, none⟩ = some (.int .i64 r.slot) from h) (show w1.cell? ⟨bp k, 5, none⟩ = some (.int .u64 r.gen) from h2)); clear s1))
    go_wp2_with fail
    refine bodyPost_end (v := .tuple #[]) ?_ rfl ⟨rfl, by rw [FD.out]; exact S5.out⟩
    simp [results, go_sem]
end
end
section
set_option linter.unusedVariables false
set_option maxRecDepth 100000
set_option maxHeartbeats 4000000
section
variable {w0 w w' : World} {S0 : Nat → Prop} {X : List Res} {a : Da} {n sz : Nat} {bp : Nat → Nat} {D : Dv} {k : Nat} {G f c : Int} {q' : od.OSt} {g' : ri.RSt} {st' : Nat → po.Buf}
theorem zeroP (w : World) : (zeroValue 117).run Tryz.prog w = .ok (.pointer none) w := by kernel_rfl
theorem inRing_o (H : St w0 S0 w (DvL a n sz bp D ++ X)) (hg : D.g.ok sz) : Calls Tryz.prog 54 #[ptrV a.d] w fun e w' => e = .returned (.int .i64 ((D.g.put : Int) - D.g.reaped)) ∧ St w0 S0 w' (DvL a n sz bp D ++ X) := by
  obtain ⟨d0, d1, d2, -⟩ := (dv_cells H).seven
  have K := Lib.hid (ri.Counts_o H 3 rfl)
  have hm := hg.m
  have h1 := hg.r
  have h2 := hg.t
  have hw : IntKind.i64.wrap ((D.g.put : Int) - D.g.reaped) = (D.g.put : Int) - D.g.reaped := IntWalk.i64_in _ ⟨by omega, by omega⟩
  clear H
  go_enter Tryz.func54, Tryz.ntmps54
  go_wp2_with fail
  refine K.out.mono ?_
  rintro e w1 ⟨rfl, s1⟩
  have S1 := Lib.hid s1
  clear s1 K d0 d1 d2
  go_wp2_with fail
  go_ret
  exact ⟨rfl, S1.out⟩
/-- Once one is done. -/
def Dv.finD (D : Dv) (f : Int) (g' : ri.RSt) (k : Nat) (bad : Bool) : Dv := if f = 0 then { D with g := g', rq := updR D.rq k { D.rq k with fi := true, bd := bad } } else { D with g := g' }
theorem finD_o (H : St w0 S0 w (DvL a n sz bp D ++ X)) (hg : D.g.ok sz) {no stt : Int} (bad : Bool) (hP : ri.FinP D.g no stt f g') (hput : g'.put = D.g.put) (hno : wfI no) (hk : f = 0 → D.pst no = some k ∧ k < D.nx) :
    Calls Tryz.prog 139 #[ptrV a.d, .int .i64 no, .int .i64 stt, .bool bad] w fun e w' => e = .returned (.int .i64 f) ∧ St w0 S0 w' (DvL a n sz bp (D.finD f g' k bad) ++ X) := by
  obtain ⟨d0, d1, d2, -⟩ := (dv_cells H).seven
  have K := Lib.hid (ri.Finish_o H 3 rfl hg no stt f hP)
  have HNO := Lib.hid hno
  have HK := Lib.hid hk
  have HPUT := Lib.hid hput
  clear H hP hno hk hput
  by_cases hf : f = 0
  · subst hf
    obtain ⟨hps, hkn⟩ := HK.out rfl
    have HPS := Lib.hid hps
    clear HK hps
    go_enter Tryz.func139, Tryz.ntmps139
    go_wp2_with fail
    refine K.out.mono ?_
    rintro e w1 ⟨rfl, s1⟩
    have s1 : St w0 S0 w1 (DvL a n sz bp { D with g := g' } ++ X) := by
      have h : St w0 S0 w1 (DvL a n sz bp D ++ X |>.set 3 (ri.RingR a.rb sz g')) := s1
      unfold DvL at h ⊢
      dsimp only at h ⊢
      rw [HPUT.out]
      exact h
    obtain ⟨e0, e1, e2, e3, e4, e5, e6⟩ := (dv_cells s1).seven
    have MI := s1.mapi 6 rfl
    have LK := MI.look1 (t := 106) (e := 117) Tryz.underlying3 Tryz.underlying106 (zeroP w1) HNO.out
    rw [show (reqM bp ({ D with g := g' } : Dv).pst no).getD (.pointer none) = ptrV (bp k) by unfold reqM; show ((D.pst no).map _).getD _ = _; rw [HPS.out]; rfl] at LK
    have b2 := (dv_req s1 hkn).frozen 9
    have b3 := (dv_req s1 hkn).frozen 10
    have c9 := (dv_req s1 hkn).cell 9
    have c10 := (dv_req s1 hkn).cell 10
    have s2 := dv_set s1 hkn 9 (.bool true) { D.rq k with fi := true } rfl
    have s3 := dv_set s2 hkn 10 (.bool bad) { D.rq k with fi := true, bd := bad } (by
      show ((updR D.rq k { D.rq k with fi := true }) k).cells.setIfInBounds 10 _ = _
      rw [updR_self]; rfl)
    have S3 := Lib.hid (show St w0 S0 _ (DvL a n sz bp (D.finD 0 g' k bad) ++ X) by
      have e : D.finD 0 g' k bad = { D with g := g', rq := updR (updR D.rq k { D.rq k with fi := true }) k { D.rq k with fi := true, bd := bad } } := by
        unfold Dv.finD
        rw [if_pos rfl]
        congr 1
        funext j; unfold updR
        by_cases h : j = k
        · rw [if_pos h, if_pos h]
        · rw [if_neg h, if_neg h, if_neg h]
      rw [e]; exact s3)
    clear s1 s2 s3 K MI d0 d1 d2
    go_wp2_with fail
    go_ret
    exact ⟨rfl, S3.out⟩
  · have z : (f == 0) = false := beq_eq_false_iff_ne.2 hf
    go_enter Tryz.func139, Tryz.ntmps139
    go_wp2_with fail
    refine K.out.mono ?_
    rintro e w1 ⟨rfl, s1⟩
    have S1 := Lib.hid (show St w0 S0 w1 (DvL a n sz bp { D with g := g' } ++ X) by
      have h : St w0 S0 w1 (DvL a n sz bp D ++ X |>.set 3 (ri.RingR a.rb sz g')) := s1
      unfold DvL at h ⊢
      dsimp only at h ⊢
      rw [HPUT.out]
      exact h)
    have FD := Lib.hid (show D.finD f g' k bad = { D with g := g' } from if_neg hf)
    clear s1 K hf
    go_wp2_with fail
    go_ret
    exact ⟨rfl, by rw [FD.out]; exact S1.out⟩
/-- Once one is called off. -/
def Dv.canD (D : Dv) (id : Int) (k : Nat) (q' : od.OSt) (st' : Nat → po.Buf) : Dv := if outA D.b id = 0 then Dv.outD { D with b := D.b.out ⟨id, 2, 3⟩ } k q' st' else D
theorem canD_o (H : St w0 S0 w (DvL a n sz bp D ++ X)) {id : Int} (hid : wfI id) (hun : D.b.un.length ≤ 100000) (hqo : D.q.ok) (ok : po.POK n D.st G)
    (hk : outA D.b id = 0 → D.opn id = some k ∧ k < D.nx ∧ (D.rq k).id = id ∧ od.DropP D.q id f q' ∧ po.Via n D.st (D.rq k).slot (D.rq k).gen (po.GiveB (if (D.rq k).tk then 3 else 2) 1) c st') :
    Calls Tryz.prog 20 #[ptrV a.d, .int .i64 id] w fun e w' => e = .returned (.int .i64 (outA D.b id)) ∧ St w0 S0 w' (DvL a n sz bp (D.canD id k q' st') ++ X) := by
  obtain ⟨d0, d1, d2, d3, -⟩ := (dv_cells H).seven
  have K := Lib.hid (bCancel_o (id := id) H 4 rfl hid hun)
  have HID := Lib.hid hid
  have HK := Lib.hid hk
  have HQO := Lib.hid hqo
  have OK := Lib.hid ok
  clear H hid hk hqo ok
  by_cases hf : outA D.b id = 0
  · obtain ⟨hop, hkn, hri, hq, hg⟩ := HK.out hf
    have HOP := Lib.hid hop
    have HRI := Lib.hid hri
    have HQ := Lib.hid hq
    have HG := Lib.hid hg
    have FD := Lib.hid (show D.canD id k q' st' = Dv.outD { D with b := D.b.out ⟨id, 2, 3⟩ } k q' st' from if_pos hf)
    rw [hf] at K ⊢
    clear HK hop hri hq hg hf
    go_enter Tryz.func20, Tryz.ntmps20
    go_wp2_with fail
    refine K.out.mono ?_
    rintro e w1 ⟨rfl, s1⟩
    have s1 : St w0 S0 w1 (DvL a n sz bp { D with b := D.b.out ⟨id, 2, 3⟩ } ++ X) := s1
    obtain ⟨e0, e1, e2, e3, e4, e5, e6⟩ := (dv_cells s1).seven
    have MI := s1.mapi 5 rfl
    have LK := MI.look1 (t := 106) (e := 117) Tryz.underlying3 Tryz.underlying106 (zeroP w1) HID.out
    rw [show (reqM bp ({ D with b := D.b.out ⟨id, 2, 3⟩ } : Dv).opn id).getD (.pointer none) = ptrV (bp k) by unfold reqM; show ((D.opn id).map _).getD _ = _; rw [HOP.out]; rfl] at LK
    have K2 := Lib.hid (outD_o (k := k) (f := f) (c := c) (q' := q') (st' := st') s1 hkn (by show wfI (D.rq k).id; rw [HRI.out]; exact HID.out) HQO.out OK.out (by show od.DropP D.q (D.rq k).id f q'; rw [HRI.out]; exact HQ.out) HG.out)
    clear s1 K MI d0 d1 d2 d3
    go_wp2_with fail
    refine K2.out.mono ?_
    rintro e w2 ⟨rfl, s2⟩
    have S2 := Lib.hid s2
    clear s2 K2
    go_wp2_with fail
    go_ret
    exact ⟨rfl, by rw [FD.out]; exact S2.out⟩
  · have z : (outA D.b id == 0) = false := beq_eq_false_iff_ne.2 hf
    have FD := Lib.hid (show D.canD id k q' st' = D from if_neg hf)
    have hb : D.b.out ⟨id, 2, 3⟩ = D.b := by
      refine Bk.out_none ?_
      unfold outA at hf
      cases hs : slotO D.b.op id with
      | none => rfl
      | some j => rw [hs] at hf; exact absurd rfl hf
    have HB := Lib.hid hb
    generalize outA D.b id = q at *
    clear hb hf HK
    go_enter Tryz.func20, Tryz.ntmps20
    go_wp2_with fail
    refine K.out.mono ?_
    rintro e w1 ⟨rfl, s1⟩
    have S1 := Lib.hid (show St w0 S0 w1 (DvL a n sz bp D ++ X) by
      have h : St w0 S0 w1 (DvL a n sz bp { D with b := D.b.out ⟨id, 2, 3⟩ } ++ X) := s1
      rw [HB.out] at h; exact h)
    clear s1 K
    go_wp2_with fail
    go_ret
    exact ⟨rfl, by rw [FD.out]; exact S1.out⟩
end
end
section
set_option linter.unusedVariables false
set_option maxRecDepth 100000
set_option maxHeartbeats 4000000
section
variable {w0 w w' : World} {S0 : Nat → Prop} {X N : List Res} {a : Da} {n sz : Nat} {bp : Nat → Nat} {D : Dv} {k : Nat} {G f c : Int} {q' : od.OSt} {g' : ri.RSt} {st' : Nat → po.Buf}
/-- What is a device's own ahead of other things, or behind them. -/
theorem dv_front (s : St w0 S0 w (N ++ (DvL a n sz bp D ++ X))) : St w0 S0 w (DvL a n sz bp D ++ (X ++ N)) := by rw [← List.append_assoc]; exact s.comm
theorem dv_back (s : St w0 S0 w (DvL a n sz bp D ++ (X ++ N))) : St w0 S0 w (N ++ (DvL a n sz bp D ++ X)) := by rw [← List.append_assoc] at s; exact s.comm
/-- Once the device has taken one. -/
def Dv.tkD (D : Dv) (f : Int) (g' : ri.RSt) (k : Nat) (st' : Nat → po.Buf) : Dv := if f = 0 then { D with g := g', rq := updR D.rq k { D.rq k with tk := true }, st := if (D.rq k).vo then D.st else st' } else { D with g := g' }
theorem tkD_o (H : St w0 S0 w (DvL a n sz bp D ++ X)) (hg : D.g.ok sz) (ok : po.POK n D.st G) {no : Int} {d : ri.Dsc} (hP : ri.TakeP D.g no d f g') (hput : g'.put = D.g.put) (hno : wfI no)
    (hk : f = 0 → D.pst no = some k ∧ k < D.nx ∧ ((D.rq k).vo = false → po.Via n D.st (D.rq k).slot (D.rq k).gen (po.GiveB 2 3) c st')) :
    Calls Tryz.prog 120 #[ptrV a.d] w fun e w' => e = .returned (.tuple #[.int .i64 (if f = 0 then no else 0), (if f = 0 then d else ri.dZ).v, .int .i64 f]) ∧ St w0 S0 w' (DvL a n sz bp (D.tkD f g' k st') ++ X) := by
  have hb : St w0 S0 (w.alloc (.cells #[.int .i64 0, .int .i64 0, .int .i64 0, .int .u64 0, .int .i64 0, .int .i64 0, .bool false, .bool false, .int .i64 0] 135)) (DvL a n sz bp D ++ (X ++ [BlkR w.heap.size 135 ri.dZ.cells])) := by rw [← List.append_assoc]; exact H.box 135 ri.dZ.cells
  obtain ⟨rb, hrb⟩ : ∃ rb, w.heap.size = rb := ⟨_, rfl⟩
  rw [hrb] at hb
  obtain ⟨d0, d1, d2, -⟩ := (dv_cells hb).seven
  have K := Lib.hid (ri.Take_o hb 3 rfl hg no f d hP)
  have HNO := Lib.hid hno
  have HK := Lib.hid hk
  have HPUT := Lib.hid hput
  have OK := Lib.hid ok
  clear H hP hno hk hput ok hb
  unfold ri.Dsc.v at K
  by_cases hf : f = 0
  · subst hf
    obtain ⟨hps, hkn, hgv⟩ := HK.out rfl
    have HPS := Lib.hid hps
    have HGV := Lib.hid hgv
    clear HK hps hgv
    go_enter Tryz.func120, Tryz.ntmps120
    go_wp2_with fail
    refine K.out.mono ?_
    rintro e w1 ⟨rfl, s1⟩
    have s1 : St w0 S0 w1 (DvL a n sz bp { D with g := g' } ++ (X ++ [BlkR rb 135 ri.dZ.cells])) := by
      have h : St w0 S0 w1 (DvL a n sz bp D ++ (X ++ [BlkR rb 135 ri.dZ.cells]) |>.set 3 (ri.RingR a.rb sz g')) := s1
      unfold DvL at h ⊢
      dsimp only at h ⊢
      rw [HPUT.out]
      exact h
    have s2 : St w0 S0 (w1.alloc (.cells #[.int .i64 d.op, .int .i64 d.req, .int .i64 d.slot, .int .u64 d.gen, .int .i64 d.frm, .int .i64 d.len, .bool d.dv, .bool d.dn, .int .i64 d.st] 135)) (DvL a n sz bp { D with g := g' } ++ (X ++ ([BlkR rb 135 ri.dZ.cells, BlkR w1.heap.size 135 d.cells]))) := by
      have h := s1.box 135 d.cells
      rw [List.append_assoc, List.append_assoc] at h; exact h
    obtain ⟨lb, hlb⟩ : ∃ lb, w1.heap.size = lb := ⟨_, rfl⟩
    rw [hlb] at s2
    obtain ⟨e0, e1, e2, e3, e4, e5, e6⟩ := (dv_cells s2).seven
    have LK := (s2.mapi 6 rfl).look1 (t := 106) (e := 117) Tryz.underlying3 Tryz.underlying106 (zeroP _) HNO.out
    rw [show (reqM bp ({ D with g := g' } : Dv).pst no).getD (.pointer none) = ptrV (bp k) by unfold reqM; show ((D.pst no).map _).getD _ = _; rw [HPS.out]; rfl] at LK
    have b8 := (dv_req s2 hkn).frozen 8
    have c8 := (dv_req s2 hkn).cell 8
    have c11 := (dv_req s2 hkn).cell 11
    have s3 := dv_set s2 hkn 8 (.bool true) { D.rq k with tk := true } rfl
    obtain ⟨vo, hvo⟩ : ∃ vo, (D.rq k).vo = vo := ⟨_, rfl⟩
    have HVO := Lib.hid hvo
    have FD := Lib.hid (show D.tkD 0 g' k st' = { D with g := g', rq := updR D.rq k { D.rq k with tk := true }, st := if (D.rq k).vo then D.st else st' } from if_pos rfl)
    have e11 : ({ D with g := g', rq := updR D.rq k { D.rq k with tk := true } } : Dv).rq k = { D.rq k with tk := true } := updR_self _ _ _
    have y11 : ((w1.alloc (.cells #[.int .i64 d.op, .int .i64 d.req, .int .i64 d.slot, .int .u64 d.gen, .int .i64 d.frm, .int .i64 d.len, .bool d.dv, .bool d.dn, .int .i64 d.st] 135)).setCell ⟨bp k, 8, none⟩ (.bool true)).cell? ⟨bp k, 11, none⟩ = some (.bool vo) := by
      have h := (dv_req s3 hkn).cell 11
      rw [e11] at h
      rw [h, ← hvo]; rfl
    obtain ⟨sl, hsl⟩ : ∃ sl, (D.rq k).slot = sl := ⟨_, rfl⟩
    obtain ⟨ge, hge⟩ : ∃ ge, (D.rq k).gen = ge := ⟨_, rfl⟩
    have S3 := Lib.hid s3
    have CE := Lib.hid (show ∀ (W : World) (E : Dv) (Y : List Res), St w0 S0 W (DvL a n sz bp E ++ Y) → E.nx = D.nx → E.rq k = { D.rq k with tk := true } → W.cell? ⟨a.d, 0, none⟩ = some (ptrV a.p) ∧ W.cell? ⟨bp k, 4, none⟩ = some (.int .i64 sl) ∧ W.cell? ⟨bp k, 5, none⟩ = some (.int .u64 ge) from fun W E Y s hn he => by
      have h4 := (dv_req s (by rw [hn]; exact hkn)).cell 4
      have h5 := (dv_req s (by rw [hn]; exact hkn)).cell 5
      rw [he] at h4 h5
      rw [h4, h5, ← hsl, ← hge]
      exact ⟨(dv_cells s).seven.1, rfl, rfl⟩)
    have E11 := Lib.hid e11
    rw [hsl, hge] at HGV
    clear s1 s2 s3 K d0 d1 d2 hsl hge e11 hvo
    go_upto_if 35 with (fail)
    clear e0 e1 e2 e3 e4 e5 e6 LK b8 c8 c11
    generalize (w1.alloc (.cells #[.int .i64 d.op, .int .i64 d.req, .int .i64 d.slot, .int .u64 d.gen, .int .i64 d.frm, .int .i64 d.len, .bool d.dv, .bool d.dn, .int .i64 d.st] 135)).setCell ⟨bp k, 8, none⟩ (.bool true) = wd at *
    go_cut [] (fun wx => St w0 S0 wx (DvL a n sz bp (D.tkD 0 g' k st') ++ (X ++ [BlkR rb 135 ri.dZ.cells, BlkR lb 135 d.cells])))
    case first =>
      cases vo with
      | true =>
        go_wp2_with fail
        go_meet
        rw [FD.out, show (if (D.rq k).vo = true then D.st else st') = D.st from if_pos HVO.out]
        exact S3.out
      | false =>
        have qq := CE.out wd _ _ S3.out rfl E11.out
        obtain ⟨y0, y4, y5⟩ := qq
        have K1 := Lib.hid (po.give_o S3.out.drew 1 rfl OK.out (HGV.out HVO.out))
        go_wp2_with fail
        go_region_held3 (fun w' => w'.cell? ⟨a.d, 0, none⟩ = some (ptrV a.p) ∧ w'.cell? ⟨bp k, 4, none⟩ = some (.int .i64 sl) ∧ w'.cell? ⟨bp k, 5, none⟩ = some (.int .u64 ge)) (go_keep)
          (first
            | (go_at_call 49; refine K1.out.mono ?_; rintro e w5 ⟨rfl, s5⟩; have S5 := Lib.hid (show St w0 S0 w5 (DvL a n sz bp { D with g := g', rq := updR D.rq k { D.rq k with tk := true }, st := st' } ++ (X ++ [BlkR rb 135 ri.dZ.cells, BlkR lb 135 d.cells])) from s5); have q5 := CE.out w5 _ _ S5.out rfl E11.out; clear s5))
        go_wp2_with fail
        go_meet
        rw [FD.out, show (if (D.rq k).vo = true then D.st else st') = st' from if_neg (by rw [HVO.out]; decide)]
        exact S5.out
    case rest =>
    have s6 := dv_back hcut
    obtain ⟨c0, c1, c2, c3, c4, c5, c6, c7, c8⟩ := ri.dsc9 ri.dZ _ rb (s6.blk 0 rfl)
    obtain ⟨z0, z1, z2, z3, z4, z5, z6, z7, z8⟩ := ri.frz9 (s6.blk 0 rfl)
    obtain ⟨v0, v1, v2, v3, v4, v5, v6, v7, v8⟩ := ri.dsc9 d _ lb (s6.blk 1 rfl)
    have S6 := Lib.hid s6
    clear hcut s6 S3 CE E11 y11
    go_wp2_with fail
    go_region
    go_wp2_with fail
    refine bodyPost_ret (v := .tuple #[.int .i64 no, d.v, .int .i64 0]) ?_ rfl ⟨by first | rfl | simp, ?_⟩
    · simp [results, go_sem, ri.Dsc.v, c0, c1, c2, c3, c4, c5, c6, c7, c8]
    · exact (((((((((((S6.out.set_ 0 rfl 0 _).set_ 0 rfl 1 _).set_ 0 rfl 2 _).set_ 0 rfl 3 _).set_ 0 rfl 4 _).set_ 0 rfl 5 _).set_ 0 rfl 6 _).set_ 0 rfl 7 _).set_ 0 rfl 8 _).drop 0 (by simp)).drop 0 (by simp)).drew
  · have z : (f != 0) = true := by simp [hf]
    have FD := Lib.hid (show D.tkD f g' k st' = { D with g := g' } from if_neg hf)
    go_enter Tryz.func120, Tryz.ntmps120
    go_wp2_with fail
    refine K.out.mono ?_
    rintro e w1 ⟨rfl, s1⟩
    have s1 : St w0 S0 w1 (DvL a n sz bp { D with g := g' } ++ (X ++ [BlkR rb 135 ri.dZ.cells])) := by
      have h : St w0 S0 w1 (DvL a n sz bp D ++ (X ++ [BlkR rb 135 ri.dZ.cells]) |>.set 3 (ri.RingR a.rb sz g')) := s1
      unfold DvL at h ⊢
      dsimp only at h ⊢
      rw [HPUT.out]
      exact h
    have s2 : St w0 S0 (w1.alloc (.cells #[.int .i64 d.op, .int .i64 d.req, .int .i64 d.slot, .int .u64 d.gen, .int .i64 d.frm, .int .i64 d.len, .bool d.dv, .bool d.dn, .int .i64 d.st] 135)) (DvL a n sz bp { D with g := g' } ++ (X ++ ([BlkR rb 135 ri.dZ.cells, BlkR w1.heap.size 135 d.cells]))) := by
      have h := s1.box 135 d.cells
      rw [List.append_assoc, List.append_assoc] at h; exact h
    obtain ⟨lb, hlb⟩ : ∃ lb, w1.heap.size = lb := ⟨_, rfl⟩
    rw [hlb] at s2
    have s3 := dv_back s2
    obtain ⟨c0, c1, c2, c3, c4, c5, c6, c7, c8⟩ := ri.dsc9 ri.dZ _ rb (s3.blk 0 rfl)
    obtain ⟨z0, z1, z2, z3, z4, z5, z6, z7, z8⟩ := ri.frz9 (s3.blk 0 rfl)
    have S3 := Lib.hid s3
    have HF := Lib.hid hf
    clear s1 s2 s3 K d0 d1 d2 HK hf
    go_wp2_with fail
    refine bodyPost_ret (v := .tuple #[.int .i64 0, ri.dZ.v, .int .i64 f]) ?_ rfl ⟨by first | rfl | simp [HF.out], ?_⟩
    · simp [results, go_sem, ri.Dsc.v, ri.dZ, c0, c1, c2, c3, c4, c5, c6, c7, c8]
    · rw [FD.out]
      exact (((((((((((S3.out.set_ 0 rfl 0 _).set_ 0 rfl 1 _).set_ 0 rfl 2 _).set_ 0 rfl 3 _).set_ 0 rfl 4 _).set_ 0 rfl 5 _).set_ 0 rfl 6 _).set_ 0 rfl 7 _).set_ 0 rfl 8 _).drop 0 (by simp)).drop 0 (by simp))
end
end
end Go.Proofs.YtdjhpdacglojaaaGreat
