/- Layer 24: a descriptor is taken, a byte written, and what comes behind it. -/
import Derived.Test.YtdjhpdacglojaaaGreatEngA
namespace Go.Proofs.YtdjhpdacglojaaaGreat
open Go.RowKit
set_option linter.unusedVariables false
set_option maxRecDepth 100000
set_option maxHeartbeats 1600000
theorem ri_agg (d : ri.Dsc) : ri.Dsc.v d = .agg #[.int .i64 d.op, .int .i64 d.req, .int .i64 d.slot, .int .u64 d.gen, .int .i64 d.frm, .int .i64 d.len, .bool d.dv, .bool d.dn, .int .i64 d.st] := rfl
section
variable {w0 w : World} {S0 : Nat → Prop} {X N L : List Res} {a : Da} {n sz : Nat} {G : Int} {bp : Nat → Nat} {D D' : Dv} {e b g mb : Nat} {mp : Nat → Nat} {C : bs.BC} {id : Int} {m m' : Mv} {s : bs.BS}
theorem eng_blk (H : St w0 S0 w (DvL a n sz bp D ++ (EngX e b g mb a.d mp C id m s ++ N))) : Blk w e 151 (engV a.d b mb id m) := H.blk 8 rfl
theorem eng_move (H : St w0 S0 w (DvL a n sz bp D ++ (EngX e b g mb a.d mp C id m s ++ N))) (m' : Mv) :
    St w0 S0 (((w.setCell ⟨e, 3, none⟩ (.int .i64 m'.no)).setCell ⟨e, 4, none⟩ (.int .i64 m'.at_)).setCell ⟨e, 5, none⟩ (.int .i64 m'.sz)) (DvL a n sz bp D ++ (EngX e b g mb a.d mp C id m' s ++ N)) ∧
    w.frozen? ⟨e, 3, none⟩ = false ∧ (w.setCell ⟨e, 3, none⟩ (.int .i64 m'.no)).frozen? ⟨e, 4, none⟩ = false ∧ ((w.setCell ⟨e, 3, none⟩ (.int .i64 m'.no)).setCell ⟨e, 4, none⟩ (.int .i64 m'.at_)).frozen? ⟨e, 5, none⟩ = false ∧
    (w.setCell ⟨e, 3, none⟩ (.int .i64 m'.no)).cell? ⟨e, 4, none⟩ = some (.int .i64 m.at_) ∧ ((w.setCell ⟨e, 3, none⟩ (.int .i64 m'.no)).setCell ⟨e, 4, none⟩ (.int .i64 m'.at_)).cell? ⟨e, 5, none⟩ = some (.int .i64 m.sz) := by
  have h0 := eng_blk H
  have h1 := h0.set_ 3 (.int .i64 m'.no)
  have h2 := h1.set_ 4 (.int .i64 m'.at_)
  exact ⟨((H.set_ 8 rfl 3 (.int .i64 m'.no)).set_ 8 rfl 4 (.int .i64 m'.at_)).set_ 8 rfl 5 (.int .i64 m'.sz), h0.frozen 3, h1.frozen 4, h2.frozen 5, h1.cell 4, h2.cell 5⟩
theorem take_len (hI : DvI n sz G D) {k : Nat} (hlt : D.g.taken < D.g.put) (hp : D.pst (D.g.taken : Int) = some k) : 1 ≤ (D.g.D D.g.taken).len ∧ (D.g.D D.g.taken).len ≤ 65536 ∧ (D.g.taken : Int) ≤ 1000000 := by
  obtain ⟨h1, h2, h3⟩ := hI.c.pk _ _ hp
  have hg := (hI.c.rg k h1).le
  rw [h3.len]
  have h4 := hI.c.cnt
  have h5 := hI.c.cap
  exact ⟨hg.1, hg.2, by omega⟩
theorem etake_o (H : St w0 S0 w (DvL a n sz bp D ++ (EngX e b g mb a.d mp C id m s ++ N))) (hI : DvI n sz G D) (hm : m.ok) :
    Calls Tryz.prog 61 #[ptrV e] w fun r w' => ∃ D' m', r = .returned (.tuple #[]) ∧ TkE n D m D' m' ∧ DvI n sz G D' ∧ m'.ok ∧ St w0 S0 w' (DvL a n sz bp D' ++ (EngX e b g mb a.d mp C id m' s ++ N)) := by
  obtain ⟨c0, -, -, -, -, -, -⟩ := (eng_blk H).seven7
  have KT := Lib.hid (takeW H hI)
  have HM := Lib.hid hm
  have HI := Lib.hid hI
  clear H hm hI
  go_enter Tryz.func61, Tryz.ntmps61
  go_wp2_with fail
  refine KT.out.mono ?_
  rintro r w1 ⟨D', no, f, ⟨q1, q2, q3, q4, q5, q6, q7, q8, q9⟩, rfl, hc, s1⟩
  rw [ri_agg]
  dsimp only
  have s2 := s1.alloc (.cells #[.int .i64 q1, .int .i64 q2, .int .i64 q3, .int .u64 q4, .int .i64 q5, .int .i64 q6, .bool q7, .bool q8, .int .i64 q9] 135)
  rcases hc with ⟨ht, rfl, -, rfl, rfl⟩ | ⟨hlt, rfl, hd, rfl, k, st', hk1, hk2, hk3, hk4, hk5, hk6⟩
  · have S2 := Lib.hid s2
    have HT := Lib.hid ht
    clear s1 s2 KT ht
    go_wp2_with fail
    go_end0
    exact ⟨_, m, rfl, Or.inl ⟨HT.out, rfl, rfl⟩, HI.out, HM.out, S2.out⟩
  · obtain ⟨y1, f3, f4, f5, y4, y5⟩ := eng_move s2 ⟨(D.g.taken : Int), 0, q6⟩
    obtain ⟨-, -, -, y3, -, -, -⟩ := (eng_blk s2).seven7
    have e6 : (D.g.D D.g.taken).len = q6 := by rw [← hd]
    have hl := take_len HI.out hlt hk1
    have HTk := Lib.hid (show TkE n D m D' ⟨(D.g.taken : Int), 0, (D.g.D D.g.taken).len⟩ from Or.inr ⟨hlt, rfl, k, st', hk1, hk2, hk3, hk4, hk5⟩)
    have HI' := Lib.hid hk6
    rw [e6] at hl HTk
    obtain ⟨b0, b1, b2, b3, b4, b5, b6, b7, b8⟩ := ri.dsc9 ⟨q1, q2, q3, q4, q5, q6, q7, q8, q9⟩ _ _ (Blk.new w1 135 #[.int .i64 q1, .int .i64 q2, .int .i64 q3, .int .u64 q4, .int .i64 q5, .int .i64 q6, .bool q7, .bool q8, .int .i64 q9])
    dsimp only at b5 y1 f3 f4 f5 y4 y5
    have Y1 := Lib.hid y1
    have HO := Lib.hid (show Mv.ok ⟨(D.g.taken : Int), 0, q6⟩ from Or.inr ⟨⟨by dsimp only; omega, by dsimp only; omega⟩, by dsimp only; omega, by dsimp only; omega, by dsimp only; omega⟩)
    clear s1 s2 KT y1 hlt hd hk1 hk2 hk3 hk4 hk5 hk6 e6 hl b0 b1 b2 b3 b4 b6 b7 b8
    go_wp2_with fail
    go_end0
    exact ⟨_, _, rfl, HTk.out, HI'.out, HO.out, Y1.out⟩
theorem eend_o (H : St w0 S0 w (DvL a n sz bp D ++ (EngX e b g mb a.d mp C id m s ++ N))) (hI : DvI n sz G D) (hm : 0 ≤ m.no ∧ m.no ≤ 1000000) (stt : Int) (bad : Bool) :
    Calls Tryz.prog 81 #[ptrV e, .int .i64 stt, .bool bad] w fun r w' => ∃ D', r = .returned (.tuple #[]) ∧ FinE D m.no stt bad D' ∧ DvI n sz G D' ∧ St w0 S0 w' (DvL a n sz bp D' ++ (EngX e b g mb a.d mp C id idleV s ++ N)) := by
  obtain ⟨c0, -, -, c3, -, -, -⟩ := (eng_blk H).seven7
  have qq := And.intro c0 c3
  have CE := Lib.hid (fun (W : World) (D' : Dv) (h : St w0 S0 W (DvL a n sz bp D' ++ (EngX e b g mb a.d mp C id m s ++ N))) => And.intro (eng_blk h).seven7.1 (eng_blk h).seven7.2.2.2.1)
  have KF := Lib.hid (finW H.drew hI (no := m.no) (stt := stt) bad (wf_small (by omega) (by omega)))
  have ID := Lib.hid (fun (W : World) => idle_c W)
  clear H hm hI
  obtain ⟨no, hno⟩ : ∃ no, m.no = no := ⟨_, rfl⟩
  rw [hno] at qq c3 KF CE ⊢
  go_enter Tryz.func81, Tryz.ntmps81
  go_wp2_with fail
  go_region_held3 (fun V => V.cell? ⟨e, 0, none⟩ = some (ptrV a.d) ∧ V.cell? ⟨e, 3, none⟩ = some (.int .i64 no)) (go_keep)
    (first
      | (go_at_call 139; refine KF.out.mono ?_; rintro r w1 ⟨f, g', k, rfl, hP, hk, hI', s1⟩; have S1 := Lib.hid s1; have HP := Lib.hid (show FinE D no stt bad (D.finD f g' k bad) from ⟨f, g', k, hP, hk, rfl⟩); have HI' := Lib.hid hI'; have q1 := CE.out _ _ s1; clear s1 hP hk hI'))
  clear qq c0 c3 CE KF q1
  go_wp2_with fail
  refine (ID.out w1).mono ?_
  rintro r w2 ⟨rfl, hb⟩
  obtain ⟨y1, f3, f4, f5, y4, y5⟩ := eng_move (S1.out.stay hb) idleV
  obtain ⟨-, -, -, y3, -, -, -⟩ := (eng_blk (S1.out.stay hb)).seven7
  have Y1 := Lib.hid y1
  unfold idleV at f4 f5 y4 y5
  dsimp only at f4 f5 y4 y5
  clear hb S1 ID y1
  go_wp2_with fail
  go_end0
  exact ⟨_, rfl, HP.out, HI'.out, Y1.out⟩
theorem efinish_o (H : St w0 S0 w (DvL a n sz bp D ++ (EngX e b g mb a.d mp C id m s ++ N))) (hI : DvI n sz G D) (hm : 0 ≤ m.no ∧ m.no ≤ 1000000) :
    Calls Tryz.prog 96 #[ptrV e] w fun r w' => ∃ D', r = .returned (.tuple #[]) ∧ FinE D m.no 0 false D' ∧ DvI n sz G D' ∧ St w0 S0 w' (DvL a n sz bp D' ++ (EngX e b g mb a.d mp C id idleV s ++ N)) := by
  have K := Lib.hid (eend_o H hI hm 0 false)
  clear H hI hm
  go_enter Tryz.func96, Tryz.ntmps96
  go_wp2_with fail
  refine K.out.mono ?_
  rintro r w1 ⟨D', rfl, h1, h2, h3⟩
  have A1 := Lib.hid h1
  have A2 := Lib.hid h2
  have A3 := Lib.hid h3
  clear h1 h2 h3 K
  go_wp2_with fail
  go_end0
  exact ⟨_, rfl, A1.out, A2.out, A3.out⟩
theorem egiveup_o (H : St w0 S0 w (DvL a n sz bp D ++ (EngX e b g mb a.d mp C id m s ++ N))) (hI : DvI n sz G D) (hm : 0 ≤ m.no ∧ m.no ≤ 1000000) :
    Calls Tryz.prog 94 #[ptrV e] w fun r w' => ∃ D', r = .returned (.tuple #[]) ∧ FinE D m.no 1 true D' ∧ DvI n sz G D' ∧ St w0 S0 w' (DvL a n sz bp D' ++ (EngX e b g mb a.d mp C id idleV s ++ N)) := by
  have K := Lib.hid (eend_o H hI hm 1 true)
  clear H hI hm
  go_enter Tryz.func94, Tryz.ntmps94
  go_wp2_with fail
  refine K.out.mono ?_
  rintro r w1 ⟨D', rfl, h1, h2, h3⟩
  have A1 := Lib.hid h1
  have A2 := Lib.hid h2
  have A3 := Lib.hid h3
  clear h1 h2 h3 K
  go_wp2_with fail
  go_end0
  exact ⟨_, rfl, A1.out, A2.out, A3.out⟩
theorem egoon_o (H : St w0 S0 w (DvL a n sz bp D ++ (EngX e b g mb a.d mp C id m s ++ N))) (hm : 0 ≤ m.at_ ∧ m.at_ ≤ 65536) :
    Calls Tryz.prog 95 #[ptrV e] w fun r w' => r = .returned (.tuple #[]) ∧ St w0 S0 w' (DvL a n sz bp D ++ (EngX e b g mb a.d mp C id ⟨m.no, m.at_ + 1, m.sz⟩ s ++ N)) := by
  have h0 := eng_blk H
  obtain ⟨-, -, -, -, c4, -, -⟩ := h0.seven7
  have f4 := h0.frozen 4
  have y := Lib.hid (show St w0 S0 (w.setCell ⟨e, 4, none⟩ (.int .i64 (m.at_ + 1))) (DvL a n sz bp D ++ (EngX e b g mb a.d mp C id ⟨m.no, m.at_ + 1, m.sz⟩ s ++ N)) from H.set_ 8 rfl 4 (.int .i64 (m.at_ + 1)))
  obtain ⟨x, hx⟩ : ∃ x, m.at_ = x := ⟨_, rfl⟩
  rw [hx] at c4 y hm ⊢
  clear H h0 hx
  go_enter Tryz.func95, Tryz.ntmps95
  go_wp2_with fail
  go_end0
  exact ⟨rfl, y.out⟩
end
end Go.Proofs.YtdjhpdacglojaaaGreat
