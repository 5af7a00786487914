/- Layer 24: a slot, whole. -/
import Derived.Test.YtdjhpdacglojaaaGreatEngC
namespace Go.Proofs.YtdjhpdacglojaaaGreat
open Go.RowKit
set_option linter.unusedVariables false
set_option maxRecDepth 100000
set_option maxHeartbeats 3200000
section
variable {w0 w : World} {S0 : Nat → Prop} {X N L : List Res} {a : Da} {n sz : Nat} {G : Int} {bp : Nat → Nat} {D D' D1 : Dv} {e b g mb : Nat} {mp : Nat → Nat} {C : bs.BC} {id : Int} {m m' m1 : Mv} {s s' : bs.BS}
/-- Behind the first step of a slot. -/
def CutE (w0 : World) (S0 : Nat → Prop) (N : List Res) (a : Da) (n sz : Nat) (G : Int) (bp : Nat → Nat) (e b g mb : Nat) (mp : Nat → Nat) (C : bs.BC) (id : Int) (s : bs.BS) (D : Dv) (m : Mv) (wx : World) : Prop :=
  ∃ D1 m1, ((m.no < 0 ∧ TkE n D m D1 m1) ∨ (0 ≤ m.no ∧ D1 = D ∧ m1 = m)) ∧ DvI n sz G D1 ∧ m1.ok ∧ St w0 S0 wx (DvL a n sz bp D1 ++ (EngX e b g mb a.d mp C id m1 s ++ N))
/-- Behind the second one. -/
def CutF (w0 : World) (S0 : Nat → Prop) (L : List Res) (W : List Int) (x : Value) (wx : World) : Prop := ∃ B c, x = .slice B W.length c ∧ St w0 S0 wx (L ++ [LisR 3 1 (.slice B W.length c) W.length (iv W)])
theorem Mv.ok.act (h : m.ok) (h0 : 0 ≤ m.no) : (0 ≤ m.no ∧ m.no ≤ 1000000) ∧ 0 ≤ m.at_ ∧ m.at_ < m.sz ∧ m.sz ≤ 65536 := by
  rcases h with h | h
  · rw [h] at h0; unfold idleV at h0; dsimp only at h0; omega
  · exact h
theorem idle_ok : idleV.ok := Or.inl rfl
theorem zero_fn (w : World) : (zeroValue 1).run Tryz.prog w = .ok .nilFunc w := by kernel_rfl
theorem beh0 (e : Nat) : behM e 0 = some (.func (Fn.func 94) #[ptrV e] #[]) := rfl
theorem beh1 (e : Nat) : behM e 1 = some (.func (Fn.func 95) #[ptrV e] #[]) := rfl
theorem beh2 (e : Nat) : behM e 2 = some (.func (Fn.func 96) #[ptrV e] #[]) := rfl
theorem eslot_o (H : St w0 S0 w (DvL a n sz bp D ++ (EngX e b g mb a.d mp C id m s ++ N))) (hI : DvI n sz G D) (hm : m.ok) (hC : C.OK) {kk : Nat} (ho : s.OK C kk) (hkk : kk ≤ 2147483648) {now : Int} (hn0 : 0 ≤ now) {A : Option Addr} {cp : Nat} {l : List Int} (hl : l.length ≤ 900)
    (hr : ∀ W D m s, St w0 S0 W (DvL a n sz bp D ++ (EngX e b g mb a.d mp C id m s ++ N)) → Rds W A l.length 1 (iv l)) (x : Int) :
    Calls Tryz.prog 15 #[ptrV e, .int .u64 now, .slice A l.length cp, .int .u8 x] w fun r w' => ∃ v f D2 m2 s', r = .returned (.tuple #[.int .i64 v, .int .i64 f]) ∧ SlE n sz G C id x now l D m s v f D2 m2 s' ∧ DvI n sz G D2 ∧ m2.ok ∧ St w0 S0 w' (DvL a n sz bp D2 ++ (EngX e b g mb a.d mp C id m2 s' ++ N)) := by
  obtain ⟨iI, hiI, hzI, hsI, hbI⟩ := info3w Tryz.infoEI
  have HB := Lib.hid (busy_c (eng_blk H))
  obtain ⟨y1, hy1⟩ : ∃ y, decide (0 ≤ m.no) = y := ⟨_, rfl⟩
  rw [hy1] at HB
  have HY1 := Lib.hid hy1
  clear hy1
  have KT := Lib.hid (etake_o H hI hm)
  have HH := Lib.hid H
  have HI := Lib.hid hI
  have HM := Lib.hid hm
  have HC := Lib.hid hC
  have HO := Lib.hid ho
  have HR := Lib.hid hr
  clear H hI hm hC ho hr
  go_enter Tryz.func15, Tryz.ntmps15
  go_wp2_with fail
  refine HB.out.mono ?_
  rintro r w1 ⟨rfl, rfl⟩
  clear HB
  go_upto_if 15 with (fail)
  go_cut [] (fun wx => CutE w0 S0 N a n sz G bp e b g mb mp C id s D m wx)
  case first =>
    cases y1 with
    | true =>
      go_wp2_with fail
      go_meet
      exact ⟨D, m, Or.inr ⟨of_decide_eq_true HY1.out, rfl, rfl⟩, HI.out, HM.out, HH.out⟩
    | false =>
      go_wp2_with fail
      refine KT.out.mono ?_
      rintro r w2 ⟨D', m', rfl, h1, h2, h3, s2⟩
      have A1 := Lib.hid h1
      have A2 := Lib.hid h2
      have A3 := Lib.hid h3
      have A4 := Lib.hid s2
      have A5 := Lib.hid (show m.no < 0 by have := of_decide_eq_false HY1.out; omega)
      clear h1 h2 h3 s2
      go_wp2_with fail
      go_meet
      exact ⟨D', m', Or.inl ⟨A5.out, A1.out⟩, A2.out, A3.out, A4.out⟩
  case rest =>
  obtain ⟨D1, m1, hst, hI1, hm1, s1⟩ := hcut
  have KC := Lib.hid (clone_iv (c := cp) wc (HR.out _ _ _ _ s1) (by omega))
  have HST := Lib.hid hst
  have HI1 := Lib.hid hI1
  have HM1 := Lib.hid hm1
  have S1 := Lib.hid s1
  clear hst hI1 hm1 s1 KT HH
  go_wp2_with fail
  refine KC.out.mono ?_
  rintro r w2 ⟨B, d, rfl, k2⟩
  have s2 := S1.out.join k2
  have HB := Lib.hid (busy_c (eng_blk s2.init_l))
  obtain ⟨y2, hy2⟩ : ∃ y, decide (0 ≤ m1.no) = y := ⟨_, rfl⟩
  rw [hy2] at HB
  have HY2 := Lib.hid hy2
  clear hy2
  have S2 := Lib.hid s2
  clear k2 s2 KC S1
  go_wp2_with fail
  refine HB.out.mono ?_
  rintro r w3 ⟨rfl, rfl⟩
  clear HB
  go_upto_if 21 with (fail)
  go_cut [10] (fun x10 wx => CutF w0 S0 (DvL a n sz bp D1 ++ (EngX e b g mb a.d mp C id m1 s ++ N)) (wantsE l m1 id) x10 wx)
  case first =>
    cases y2 with
    | true =>
      have HW := Lib.hid (show wantsE l m1 id = l ++ [id] from if_pos (of_decide_eq_true HY2.out))
      have c2 := (eng_blk S2.out.init_l).seven7.2.2.1
      have S3 := Lib.hid (S2.out.alloc (.cells #[.int .i64 id] 3))
      have HL := Lib.hid S3.out.last_l
      go_wp2_with (at_builtin; refine wpList_lis rfl (.tmp 22) (.tmp 27) 35 rfl 3 iI (.int .i64 0) 1 8 Tryz.underlying35 hiI hzI hsI hbI rfl (by decide) _ _ _ rfl HL.out _ 1 1 [.int .i64 id] rfl (rds_box _ _ _) (by simp [Value.oneCell']) (by unfold maxLen; omega) (by omega) ?_; intro B3 c3 w4 hl4 hg4 hat4; have S4 := Lib.hid (S3.out.last_put hl4 hg4 hat4); clear hl4 hg4 hat4)
      go_meet
      refine ⟨B3, c3, ?_, ?_⟩
      · rw [HW.out, List.length_append]; rfl
      · have h := S4.out
        rw [HW.out, List.length_append, iv_app]
        exact h
    | false =>
      have HW := Lib.hid (show wantsE l m1 id = l from if_neg (of_decide_eq_false HY2.out))
      go_wp2_with fail
      go_meet
      refine ⟨B, d, ?_, ?_⟩
      · rw [HW.out]
      · rw [HW.out]; exact S2.out
  case rest =>
  obtain ⟨B3, c3, rfl, s3⟩ := hcut
  obtain ⟨W, hW⟩ : ∃ W, wantsE l m1 id = W := ⟨_, rfl⟩
  rw [hW] at s3
  have HWW := Lib.hid hW
  rw [hW]
  have hWl : W.length ≤ 901 := by
    rw [← hW]
    unfold wantsE
    split
    · rw [List.length_append]; simp; omega
    · omega
  obtain ⟨v, f, s', hR⟩ := bs.slotR_ex C s now (bs.okB W.length (fE W) C.n) (bs.wantB W.length (fE W))
  have hlr := s3.last_l.reads
  have hrd : Rd wc B3 W.length (fun j => .int .i64 (fE W j)) := fun h0 => by
    rcases hlr.2 with h | ⟨g3, o3, e3, hc3⟩
    · omega
    · refine ⟨g3, o3, e3, ?_, fun j hj => hc3 j _ ?_⟩
      · have := hc3 0 _ (iv_get (List.getElem?_eq_getElem h0))
        exact cell_ltE this
      · rw [iv_get (List.getElem?_eq_getElem hj)]
        simp [fE, List.getD, hj]
  have KS := Lib.hid (bs.Slot_o (cap := c3) s3 (k := 10) rfl HC.out HO.out hkk hn0 (by unfold maxLen; omega) hrd hR)
  have c1 := (eng_blk s3.init_l).seven7.2.1
  have HRR := Lib.hid hR
  clear s3 hlr hrd hR HR
  go_wp2_with fail
  refine KS.out.mono ?_
  rintro r w4 ⟨rfl, s4'⟩
  have s4 : St w0 S0 w4 (DvL a n sz bp D1 ++ (EngX e b g mb a.d mp C id m1 s' ++ N)) := (show St w0 S0 w4 ((DvL a n sz bp D1 ++ (EngX e b g mb a.d mp C id m1 s' ++ N)) ++ [LisR 3 1 (.slice B3 W.length c3) W.length (iv W)]) from s4').init_l
  have c2 := (eng_blk s4).seven7.2.2.1
  have HB := Lib.hid (busy_c (eng_blk s4))
  have S4 := Lib.hid s4
  have FIN := Lib.hid (fun (D2 : Dv) (m2 : Mv) (h : (¬ (f = 0 ∧ v = id ∧ 0 ≤ m1.no) ∧ D2 = D1 ∧ m2 = m1) ∨ ((f = 0 ∧ v = id ∧ 0 ≤ m1.no) ∧ WrE n D1 m1 x D2 m2)) => (show SlE n sz G C id x now l D m s v f D2 m2 s' from ⟨D1, m1, HST.out, HI1.out, HM1.out, by rw [HWW.out]; exact HRR.out, h⟩))
  clear s4 s4' KS c1 HWW HRR HST
  by_cases h1 : f = 0
  rotate_left 1
  · have z1 : (f == 0) = false := beq_eq_false_iff_ne.2 h1
    have F1 := Lib.hid (FIN.out D1 m1 (Or.inl ⟨fun h => h1 h.1, rfl, rfl⟩))
    clear FIN HB c2 h1
    go_wp2_with fail
    go_ret2
    exact ⟨_, _, _, _, _, rfl, F1.out, HI1.out, HM1.out, S4.out⟩
  have z1 : (f == 0) = true := by simp [h1]
  by_cases h2 : v = id
  rotate_left 1
  · have z2 : (v == id) = false := beq_eq_false_iff_ne.2 h2
    have F1 := Lib.hid (FIN.out D1 m1 (Or.inl ⟨fun h => h2 h.2.1, rfl, rfl⟩))
    clear FIN HB h1 h2
    go_wp2_with fail
    go_ret2
    exact ⟨_, _, _, _, _, rfl, F1.out, HI1.out, HM1.out, S4.out⟩
  have z2 : (v == id) = true := by simp [h2]
  by_cases h3 : 0 ≤ m1.no
  rotate_left 1
  · have z3 : decide (0 ≤ m1.no) = false := decide_eq_false h3
    have F1 := Lib.hid (FIN.out D1 m1 (Or.inl ⟨fun h => h3 h.2.2, rfl, rfl⟩))
    clear FIN h1 h2
    go_wp2_with fail
    refine HB.out.mono ?_
    rintro r w5 ⟨rfl, rfl⟩
    clear HB
    go_wp2_with fail
    go_ret2
    exact ⟨_, _, _, _, _, rfl, F1.out, HI1.out, HM1.out, S4.out⟩
  have z3 : decide (0 ≤ m1.no) = true := decide_eq_true h3
  have hact := HM1.out.act h3
  obtain ⟨cw, st', hP⟩ := wrP_ex n D1 m1.no m1.at_ [x]
  obtain ⟨hI2, -, -⟩ := HI1.out.wr hP
  have FW := Lib.hid (fun (D2 : Dv) (m2 : Mv) h => FIN.out D2 m2 (Or.inr ⟨⟨h1, h2, h3⟩, cw, st', hP, h⟩))
  have KW := Lib.hid (ewrite_o S4.out.drew HI1.out hact x hP)
  have c6 := (eng_blk S4.out).seven7.2.2.2.2.2.2
  have LKX := Lib.hid (fun (V : World) (D2 : Dv) (h : St w0 S0 V (DvL a n sz bp D2 ++ (EngX e b g mb a.d mp C id m1 s' ++ N))) (i : Int) (hi : wfI i) => And.intro (eng_blk h).seven7.2.2.2.2.2.2 ((h.mapi 9 rfl).look1 (t := 149) (e := 1) Tryz.underlying3 Tryz.underlying149 (zero_fn V) hi))
  have HI2 := Lib.hid hI2
  have HA := Lib.hid hact
  clear FIN h1 h2 h3 hP hI2
  by_cases hc : cw = 0
  · by_cases hlt : m1.at_ + 1 < m1.sz
    · rw [if_pos hc, if_pos hlt] at KW
      have F1 := Lib.hid (FW.out _ _ (Or.inr (Or.inl ⟨hc, hlt, rfl, rfl⟩)))
      have HM2 := Lib.hid (show Mv.ok ⟨m1.no, m1.at_ + 1, m1.sz⟩ from Or.inr ⟨HA.out.1, by dsimp only; omega, hlt, by dsimp only; omega⟩)
      have GO := Lib.hid (fun (V : World) (h : St w0 S0 V (DvL a n sz bp { D1 with st := st' } ++ (EngX e b g mb a.d mp C id m1 s' ++ N))) => egoon_o h ⟨HA.out.2.1, by have := HA.out.2; omega⟩)
      clear hc hlt hact FW
      go_wp2_with fail
      refine HB.out.mono ?_
      rintro r w5 ⟨rfl, rfl⟩
      clear HB
      go_wp2_with fail
      go_region_held3 (fun V => V.cell? ⟨e, 6, none⟩ = some (.map (some mb))) (go_keep)
        (first
          | (go_at_call 64; refine KW.out.mono ?_; rintro r w6 ⟨rfl, s6⟩; have S6 := Lib.hid s6; have LK := LKX.out _ _ s6 1 (wf_small (by omega) (by omega)); clear s6)
          | (refine (GO.out _ S6.out).mono ?_; rintro r w7 ⟨rfl, s7⟩; have S7 := Lib.hid s7; have q7 := (eng_blk s7).seven7.2.2.2.2.2.2; clear s7))
      all_goals
        go_wp2_with fail
        go_ret2
        exact ⟨_, _, _, _, _, rfl, F1.out, HI2.out, HM2.out, S7.out⟩
    · rw [if_pos hc, if_neg hlt] at KW
      have F1 := Lib.hid (fun (D2 : Dv) (h : FinE { D1 with st := st' } m1.no 0 false D2) => FW.out D2 idleV (Or.inr (Or.inr ⟨hc, hlt, h, rfl⟩)))
      have GO := Lib.hid (fun (V : World) (h : St w0 S0 V (DvL a n sz bp { D1 with st := st' } ++ (EngX e b g mb a.d mp C id m1 s' ++ N))) => efinish_o h HI2.out HA.out.1)
      clear hc hlt hact FW
      go_wp2_with fail
      refine HB.out.mono ?_
      rintro r w5 ⟨rfl, rfl⟩
      clear HB
      go_wp2_with fail
      go_region_held3 (fun V => V.cell? ⟨e, 6, none⟩ = some (.map (some mb))) (go_keep)
        (first
          | (go_at_call 64; refine KW.out.mono ?_; rintro r w6 ⟨rfl, s6⟩; have S6 := Lib.hid s6; have LK := LKX.out _ _ s6 2 (wf_small (by omega) (by omega)); clear s6)
          | (refine (GO.out _ S6.out).mono ?_; rintro r w7 ⟨D7, rfl, h71, h72, s7⟩; have S7 := Lib.hid s7; have F7 := Lib.hid h71; have I7 := Lib.hid h72; have q7 := (eng_blk s7).seven7.2.2.2.2.2.2; clear s7 h71 h72))
      all_goals
        go_wp2_with fail
        go_ret2
        exact ⟨_, _, _, _, _, rfl, F1.out _ F7.out, I7.out, idle_ok, S7.out⟩
  · rw [if_neg hc] at KW
    have F1 := Lib.hid (fun (D2 : Dv) (h : FinE { D1 with st := st' } m1.no 1 true D2) => FW.out D2 idleV (Or.inl ⟨hc, h, rfl⟩))
    have GO := Lib.hid (fun (V : World) (h : St w0 S0 V (DvL a n sz bp { D1 with st := st' } ++ (EngX e b g mb a.d mp C id m1 s' ++ N))) => egiveup_o h HI2.out HA.out.1)
    clear hc hact FW
    go_wp2_with fail
    refine HB.out.mono ?_
    rintro r w5 ⟨rfl, rfl⟩
    clear HB
    go_wp2_with fail
    go_region_held3 (fun V => V.cell? ⟨e, 6, none⟩ = some (.map (some mb))) (go_keep)
      (first
        | (go_at_call 64; refine KW.out.mono ?_; rintro r w6 ⟨rfl, s6⟩; have S6 := Lib.hid s6; have LK := LKX.out _ _ s6 0 (wf_small (by omega) (by omega)); clear s6)
        | (refine (GO.out _ S6.out).mono ?_; rintro r w7 ⟨D7, rfl, h71, h72, s7⟩; have S7 := Lib.hid s7; have F7 := Lib.hid h71; have I7 := Lib.hid h72; have q7 := (eng_blk s7).seven7.2.2.2.2.2.2; clear s7 h71 h72))
    all_goals
      go_wp2_with fail
      go_ret2
      exact ⟨_, _, _, _, _, rfl, F1.out _ F7.out, I7.out, idle_ok, S7.out⟩
end
end Go.Proofs.YtdjhpdacglojaaaGreat
