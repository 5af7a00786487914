/- Layer 24: an engine is made; its state; made quiet. -/
import Derived.Test.YtdjhpdacglojaaaGreatEngD
namespace Go.Proofs.YtdjhpdacglojaaaGreat
open Go.RowKit
set_option linter.unusedVariables false
set_option maxRecDepth 100000
set_option maxHeartbeats 1600000
section
variable {w0 w : World} {S0 : Nat → Prop} {X N L : List Res} {a : Da} {n sz : Nat} {G : Int} {bp : Nat → Nat} {D D' : Dv} {d e b g mb : Nat} {mp : Nat → Nat} {C : bs.BC} {id : Int} {m m' : Mv} {s : bs.BS}
theorem enew_o (H : St w0 S0 w L) (d b : Nat) (hid : 0 ≤ id) :
    Calls Tryz.prog 35 #[ptrV d, ptrV b, .int .i64 id] w fun r w' => ∃ e mb, r = .returned (.tuple #[ptrV e, .int .i64 0]) ∧ St w0 S0 w' (L ++ [BlkR e 151 (engV d b mb id idleV), MapR Tryz.prog 3 mb 3 (behM e)]) := by
  have d1 : decide (id < 0) = false := decide_eq_false (by omega)
  have ID := Lib.hid (looks (idle_c w) H)
  clear H hid
  go_enter Tryz.func35, Tryz.ntmps35
  go_wp2_with fail
  refine ID.out.mono ?_
  rintro r w1 ⟨rfl, s1⟩
  have hmm := @run_makeMap Tryz.prog
  obtain ⟨e, he⟩ : ∃ e, w1.heap.size = e := ⟨_, rfl⟩
  have s2 := s1.box 151 #[ptrV d, ptrV b, .int .i64 id, .int .i64 (-1), .int .i64 0, .int .i64 0, .map none]
  have s3 := s2.map_new Tryz.prog 3
  rw [show (w1.alloc (.cells #[ptrV d, ptrV b, .int .i64 id, .int .i64 (-1), .int .i64 0, .int .i64 0, .map none] 151)).heap.size = e + 1 by simp [he]] at s3
  rw [he] at s3
  obtain ⟨v3, hv3⟩ : ∃ v3, (w1.alloc (.cells #[ptrV d, ptrV b, .int .i64 id, .int .i64 (-1), .int .i64 0, .int .i64 0, .map none] 151)).alloc (.map #[] 0) = v3 := ⟨_, rfl⟩
  rw [hv3] at s3
  have hE : ∀ (V : World) (R : Res), St w0 S0 V ((L ++ [BlkR e 151 #[ptrV d, ptrV b, .int .i64 id, .int .i64 (-1), .int .i64 0, .int .i64 0, .map none]]) ++ [R]) → Blk V e 151 #[ptrV d, ptrV b, .int .i64 id, .int .i64 (-1), .int .i64 0, .int .i64 0, .map none] := fun V R h => h.blk L.length (by simp)
  have hM : ∀ (V : World) (k : Nat) (M : Int → Option Value), St w0 S0 V ((L ++ [BlkR e 151 #[ptrV d, ptrV b, .int .i64 id, .int .i64 (-1), .int .i64 0, .int .i64 0, .map none]]) ++ [MapR Tryz.prog 3 (e + 1) k M]) → MapI V Tryz.prog 3 (e + 1) k M := fun V k M h => h.mapi (L ++ [BlkR e 151 #[ptrV d, ptrV b, .int .i64 id, .int .i64 (-1), .int .i64 0, .int .i64 0, .map none]]).length (List.getElem?_concat_length ..)
  have hT : ∀ (V V' : World) (k k' : Nat) (M M' : Int → Option Value), St w0 S0 V ((L ++ [BlkR e 151 #[ptrV d, ptrV b, .int .i64 id, .int .i64 (-1), .int .i64 0, .int .i64 0, .map none]]) ++ [MapR Tryz.prog 3 (e + 1) k M]) → MapI V' Tryz.prog 3 (e + 1) k' M' → V.grownBy V' (some (e + 1)) → St w0 S0 V' ((L ++ [BlkR e 151 #[ptrV d, ptrV b, .int .i64 id, .int .i64 (-1), .int .i64 0, .int .i64 0, .map none]]) ++ [MapR Tryz.prog 3 (e + 1) k' M']) := fun V V' k k' M M' h hm hg => by
    have h2 := h.map_turn (L ++ [BlkR e 151 #[ptrV d, ptrV b, .int .i64 id, .int .i64 (-1), .int .i64 0, .int .i64 0, .map none]]).length (List.getElem?_concat_length ..) hm hg
    rwa [List.set_append_right _ _ (Nat.le_refl _), Nat.sub_self] at h2
  obtain ⟨v4, r4, m4, g4⟩ := mapI_put_run (t := 149) (e := 1) (hM _ _ _ s3) Tryz.underlying3 Tryz.underlying149 (by unfold maxLen; omega) (i := 0) (wf_small (by omega) (by omega)) (.func (Fn.func 94) #[ptrV e] #[])
  have s4 := hT _ _ _ _ _ _ s3 m4 g4
  obtain ⟨v5, r5, m5, g5⟩ := mapI_put_run (t := 149) (e := 1) (hM _ _ _ s4) Tryz.underlying3 Tryz.underlying149 (by unfold maxLen; omega) (i := 1) (wf_small (by omega) (by omega)) (.func (Fn.func 95) #[ptrV e] #[])
  have s5 := hT _ _ _ _ _ _ s4 m5 g5
  obtain ⟨v6, r6, m6, g6⟩ := mapI_put_run (t := 149) (e := 1) (hM _ _ _ s5) Tryz.underlying3 Tryz.underlying149 (by unfold maxLen; omega) (i := 2) (wf_small (by omega) (by omega)) (.func (Fn.func 96) #[ptrV e] #[])
  have s6 := hT _ _ _ _ _ _ s5 m6 g6
  have z6 := (hE _ _ s6).frozen 6
  have y6 : v6.cell? ⟨e, 6, none⟩ = some (.map none) := (hE _ _ s6).cell 6
  have S7 := Lib.hid (show St w0 S0 (v6.setCell ⟨e, 6, none⟩ (.map (some (e + 1)))) (L ++ [BlkR e 151 (engV d b (e + 1) id idleV), MapR Tryz.prog 3 (e + 1) 3 (behM e)]) from by
    have h := s6.set_ L.length (g := e) (t := 151) (cs := #[ptrV d, ptrV b, .int .i64 id, .int .i64 (-1), .int .i64 0, .int .i64 0, .map none]) (by simp) 6 (.map (some (e + 1)))
    rw [List.append_assoc, List.set_append_right _ _ (Nat.le_refl _), Nat.sub_self] at h
    exact h)
  clear s1 s2 s3 s4 s5 s6 m4 m5 m6 g4 g5 g6 hE hM hT ID
  go_wp2_with fail
  go_ret2
  exact ⟨e, e + 1, rfl, S7.out⟩
theorem equiet_no (h : Blk w e 151 (engV a.d b mb id m)) (hm : ¬ 0 ≤ m.no) : Calls Tryz.prog 25 #[ptrV e] w fun r w' => r = .returned (.bool false) ∧ w' = w := by
  have K := Lib.hid (busy_c h)
  rw [decide_eq_false hm] at K
  clear h hm
  go_enter Tryz.func25, Tryz.ntmps25
  go_wp2_with fail
  refine K.out.mono ?_
  rintro r w1 ⟨rfl, rfl⟩
  go_wp2_with fail
  go_ret
  exact ⟨rfl, rfl⟩
theorem equiet_yes (H : St w0 S0 w (DvL a n sz bp D ++ (EngX e b g mb a.d mp C id m s ++ N))) (hI : DvI n sz G D) (hm : m.ok) (h0 : 0 ≤ m.no) :
    Calls Tryz.prog 25 #[ptrV e] w fun r w' => ∃ D', r = .returned (.bool true) ∧ FinE D m.no 2 true D' ∧ DvI n sz G D' ∧ St w0 S0 w' (DvL a n sz bp D' ++ (EngX e b g mb a.d mp C id idleV s ++ N)) := by
  have K := Lib.hid (busy_c (eng_blk H))
  rw [decide_eq_true h0] at K
  have KE := Lib.hid (eend_o H hI (hm.act h0).1 2 true)
  clear H hI hm h0
  go_enter Tryz.func25, Tryz.ntmps25
  go_wp2_with fail
  refine K.out.mono ?_
  rintro r w1 ⟨rfl, rfl⟩
  clear K
  go_wp2_with fail
  refine KE.out.mono ?_
  rintro r w2 ⟨D', rfl, h1, h2, h3⟩
  have A1 := Lib.hid h1
  have A2 := Lib.hid h2
  have A3 := Lib.hid h3
  clear h1 h2 h3 KE
  go_wp2_with fail
  go_ret
  exact ⟨_, rfl, A1.out, A2.out, A3.out⟩
theorem estate_c (h : Blk w e 151 (engV a.d b mb id m)) : Calls Tryz.prog 17 #[ptrV e] w fun r w' => r = .returned (.agg #[.int .i64 m.no, .int .i64 m.at_, .int .i64 m.sz]) ∧ Below w.heap.size w w' := by
  obtain ⟨no, at_, zz⟩ := m
  have h' := h.alloc (.cells #[.int .i64 0, .int .i64 0, .int .i64 0] 49)
  obtain ⟨-, -, -, c3, c4, c5, -⟩ := h'.seven7
  dsimp only at c3 c4 c5 ⊢
  clear h h'
  go_enter Tryz.func17, Tryz.ntmps17
  go_wp2_with fail
  refine bodyPost_ret (v := .agg #[.int .i64 no, .int .i64 at_, .int .i64 zz]) ?_ rfl ⟨rfl, (Below.refl _ _).alloc (Nat.le_refl _) _⟩
  simp [results, go_sem]
end
end Go.Proofs.YtdjhpdacglojaaaGreat
