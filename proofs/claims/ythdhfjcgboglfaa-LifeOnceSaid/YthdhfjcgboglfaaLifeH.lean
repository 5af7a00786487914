/- Layer 19: a book: Open lets one in. -/
import Derived.Test.YthdhfjcgboglfaaLifeG
namespace Go.Proofs.Ythdhfjcgboglfaa
open Go.RowKit
set_option linter.unusedVariables false
set_option maxRecDepth 100000
set_option maxHeartbeats 2000000
section
variable {w0 w w' : World} {S0 : Nat → Prop} {L X : List Res} {b cw mb cap : Nat} {A : Option Addr} {s : Bk} {id dead : Int}
theorem lOpen_yes (H : St w0 S0 w (BookL b cw mb A cap s ++ X)) (ok : s.ok) (hid : wfI id) (h0 : 0 ≤ dead) (he : opnA s id dead = 0) : Calls Try.prog 11 #[.pointer (some ⟨b, 0, none⟩), .int .i64 id, .int .u64 dead] w fun e w' => e = .returned (.int .i64 0) ∧ St w0 S0 w' (BookL b cw mb A cap { s with op := updO s.op (freeO s.op) (some (id, dead)) } ++ X) := by
  obtain ⟨g0, g1, g2, hs, hn, g6⟩ := opnA_0 he
  obtain ⟨f1, f2, f3⟩ := free_get hn
  have e2 : mapO s.op id = none := by unfold mapO; rw [hs]; rfl
  have eT : ∀ k, k < 64 → Bk.T { s with op := updO s.op k (some (id, dead)) } = updT s.T (k : Int) (some (dead - s.cost)) := fun k hk => Bk.T_put hk id dead
  have lk := bk_look H hid
  rw [hs, e2] at lk
  have lk : (Instr.lookup 62 (.map (some mb)) (.int .i64 id) true).run Try.prog w = .ok (.tuple #[.agg #[.int .i64 0, .int .u64 0], .bool false]) w := lk
  have c2 := bk_cell H (j := 2) (by omega)
  unfold bkV at c2
  rw [if_neg (by omega), if_neg (by omega), if_pos rfl] at c2
  have s2 := H.alloc (.cells #[.int .i64 0, .int .u64 0] 67)
  have S2 := Lib.hid s2.drew
  have MY := Lib.hid (fun w => may_any dead w)
  rw [show decide (dead < 4611686018427387904) = true from decide_eq_true (by omega)] at MY
  have z0 : decide (id < 0) = false := decide_eq_false (by omega)
  have z1 : decide (65535 < id) = false := decide_eq_false (by omega)
  have ln := (s2.mapz 2 rfl).len Try.underlying62
  have d2 := bk_cell s2 (j := 2) (by omega)
  unfold bkV at d2
  rw [if_neg (by omega), if_neg (by omega), if_pos rfl] at d2
  have c0' := ok.c0
  have n0' := ok.n0
  obtain ⟨l, hl⟩ : ∃ l, lftO s.now dead = l := ⟨_, rfl⟩
  have zl : decide (l ≤ s.cost) = false := decide_eq_false (by rw [← hl]; unfold lftO; split <;> omega)
  have x0 := bk_cell s2.drew (j := 0) (by omega)
  have x1 := bk_cell s2.drew (j := 1) (by omega)
  unfold bkV at x0 x1
  rw [if_pos rfl] at x0
  rw [if_neg (by omega), if_pos rfl] at x1
  have NW := Lib.hid (bNow_q s2.drew 1 rfl)
  have LF := Lib.hid (left_o s.now dead ((w.alloc (.cells #[.int .i64 0, .int .u64 0] 67)).drew) n0' (by omega))
  rw [hl] at LF
  have z3 : ((cntO s.op : Int) == 64) = false := beq_eq_false_iff_ne.2 (by omega)
  have z3' : (cntO s.op == 64) = false := beq_eq_false_iff_ne.2 (by omega)
  have FT := Lib.hid (lFree_c s2.drew ok hn)
  have HOK := Lib.hid ok
  have HS := Lib.hid hs
  have HE := Lib.hid e2
  have HT := Lib.hid eT
  have HF := Lib.hid f2
  clear H s2 hl e2 hs f2 f3 he eT ok
  generalize hk : freeO s.op = k at *
  have HK := Lib.hid hk
  clear hk
  obtain ⟨now, hnow⟩ : ∃ now, s.now = now := ⟨_, rfl⟩
  obtain ⟨cost, hcost⟩ : ∃ cost, s.cost = cost := ⟨_, rfl⟩
  rw [hnow] at n0' g6
  rw [hcost] at c0' zl x0 g6
  have HNOW := Lib.hid hnow
  have HCOST := Lib.hid hcost
  clear hnow hcost
  go_enter Try.func11, Try.ntmps11
  go_wp2_with fail
  refine (MY.out _).mono ?_
  rintro e w1 ⟨rfl, rfl⟩
  go_wp2_with fail
  go_cut [37] (fun x37 wx => x37 = .bool false ∧ wx = (w.alloc (.cells #[.int .i64 0, .int .u64 0] 67)).drew)
  case first =>
    go_region_law (first
      | (go_simp; refine NW.out.mono ?_; rintro e3 w3 ⟨rfl, rfl⟩)
      | (go_simp; refine LF.out.mono ?_; rintro e3 w3 ⟨rfl, rfl⟩))
    all_goals
      go_wp2_with fail
      go_meet
      exact ⟨rfl, rfl⟩
  case rest =>
  obtain ⟨rfl, rfl⟩ := hcut
  clear lk c2 ln d2 x0 x1 NW LF MY z0 z1 zl z3 z3'
  generalize (w.alloc (.cells #[.int .i64 0, .int .u64 0] 67)).drew = w2 at *
  go_wp2_with fail
  refine FT.out.mono ?_
  rintro e w1 ⟨rfl, rfl⟩
  have c1 := bk_cell S2.out (j := 3 + k) (by omega)
  have c2 := bk_frozen S2.out (3 + k)
  unfold bkV at c1
  rw [if_neg (by omega), if_neg (by omega), if_neg (by omega), if_pos (by omega)] at c1
  have v0 : (0 : Int) ≤ (k : Int) := by omega
  have v1 : (k : Int) < 64 := by omega
  obtain ⟨V1, hV1⟩ : ∃ V1 : Nat → Value, V1 = fun j => if j = 3 + k then .int .i64 id else bkV s cw mb A cap j := ⟨_, rfl⟩
  have s5 : St w0 S0 (w2.setCell ⟨b, 3 + k, none⟩ (.int .i64 id)) (BookM b cw mb V1 now s.T (cntO s.op) (mapO s.op) A cap s.un ++ X) := by rw [hV1, ← HNOW.out]; exact S2.out.arr_set 0 rfl (by omega) _
  have HV1 := Lib.hid hV1
  have HVN : ∀ j, j ≠ 3 + k → V1 j = bkV s cw mb A cap j := fun j hj => by rw [hV1]; exact if_neg hj
  have d2 := s5.arr_cell 0 rfl (k := 2) (by omega)
  rw [HVN 2 (by omega)] at d2
  unfold bkV at d2
  rw [if_neg (by omega), if_neg (by omega), if_pos rfl] at d2
  have MZ := Lib.hid (s5.mapz 2 rfl)
  have S5 := Lib.hid s5
  have HVN := Lib.hid HVN
  have S6 := Lib.hid (show ∀ w3, MapZ w3 Try.prog 3 mb (cntO s.op + if (mapO s.op id).isSome = true then 0 else 1) (updI (mapO s.op) id (some (.agg #[.int .i64 (k : Int), .int .u64 dead]))) → (w2.setCell ⟨b, 3 + k, none⟩ (.int .i64 id)).grownBy w3 (some mb) → St w0 S0 w3 (BookM b cw mb V1 now s.T (cntO (updO s.op k (some (id, dead)))) (mapO (updO s.op k (some (id, dead)))) A cap s.un ++ X) from fun w3 hm3 hg3 => by
    have s6 := S5.out.mapz_turn 2 rfl hm3 hg3
    rw [HE.out, if_neg (show ¬ ((none : Option Value).isSome = true) by decide), ← cntO_put (x := (id, dead)) f1 HF.out, ← mapO_put HOK.out.U f1 HF.out HS.out] at s6
    exact s6)
  clear FT hV1 s5
  have k0 : 0 ≤ dead - cost := by omega
  have k1 : dead - cost ≤ 18446744073709551615 := by omega
  have wk : IntKind.u64.wrap (dead - cost) = dead - cost := IntWalk.u64_in _ ⟨by omega, by omega⟩
  have SA := Lib.hid (show setA now (k : Int) (dead - cost) = 0 by unfold setA; rw [if_neg (by omega), if_pos (by omega)])
  have eS : setT now s.T (k : Int) (dead - cost) = Bk.T { s with op := updO s.op k (some (id, dead)) } := by
    unfold setT
    rw [if_pos SA.out, HT.out k f1, HCOST.out]
  have ES := Lib.hid eS
  clear eS
  go_wp2_with (first
    | (at_mapUpdate; refine wpList_mapZ_put rfl _ _ _ 62 rfl 3 67 Try.underlying3 Try.underlying62 mb (cntO s.op) (mapO s.op) rfl MZ.out (by unfold maxLen; omega) id hid (.agg #[.int .i64 (k : Int), .int .u64 dead]) rfl rfl ?_; intro w3 hm3 hg3; have hc3 := S6.out w3 hm3 hg3; have y0 := hc3.drew.arr_cell 0 rfl (k := 0) (by omega); have y1 := hc3.drew.arr_cell 0 rfl (k := 1) (by omega); rw [HVN.out 0 (by omega)] at y0; rw [HVN.out 1 (by omega)] at y1; unfold bkV at y0 y1; rw [if_pos rfl, HCOST.out] at y0; rw [if_neg (by omega), if_pos rfl] at y1; have WS := Lib.hid (wSet_o hc3.drew 1 rfl (id := (k : Int)) k0); rw [SA.out, ES.out] at WS; clear hm3 hg3 hc3)
    | fail)
  go_region_law (first
    | (go_simp; refine WS.out.mono ?_; rintro e3 w3 ⟨rfl, s3⟩; have S7 := Lib.hid s3; clear s3))
  all_goals
    go_wp2_with fail
    go_ret
    refine ⟨rfl, ?_⟩
    have T8 := S7.out.arr_like (V' := bkV { s with op := updO s.op k (some (id, dead)) } cw mb A cap) 0 rfl (fun j hj => by
      show bkV _ cw mb A cap j = V1 j
      rw [show V1 j = if j = 3 + k then .int .i64 id else bkV s cw mb A cap j by rw [HV1.out]]
      unfold bkV
      dsimp only
      by_cases e4 : j = 3 + k
      · rw [if_pos e4, if_neg (by omega), if_neg (by omega), if_neg (by omega), if_pos (by omega)]
        unfold wsO
        rw [show j - 3 = k by omega, updO_self]
      · rw [if_neg e4]
        by_cases e3 : 3 ≤ j
        · unfold wsO
          rw [updO_ne _ _ (show j - 3 ≠ k by omega)]
        · rw [if_pos (show j < 67 by omega)]
          by_cases q0 : j = 0
          · rw [if_pos q0, if_pos q0]
          by_cases q1 : j = 1
          · rw [if_neg q0, if_neg q0, if_pos q1, if_pos q1]
          · rw [if_neg q0, if_neg q0, if_neg q1, if_neg q1, if_pos (show j = 2 by omega), if_pos (show j = 2 by omega)])
    rw [← HNOW.out] at T8
    exact T8
theorem bOpen_o (H : St w0 S0 w L) (i : Nat) (hi : L[i]? = some (BookR b s)) (hid : wfI id) (h0 : 0 ≤ dead) (h1 : dead ≤ 18446744073709551615) : Calls Try.prog 11 #[.pointer (some ⟨b, 0, none⟩), .int .i64 id, .int .u64 dead] w fun e w' => e = .returned (.int .i64 (opnA s id dead)) ∧ St w0 S0 w' (L.set i (BookR b (s.opn id dead))) :=
  St.call (fun w S h => by
    obtain ⟨ok, cw, mb, A, cap, hs⟩ := h
    have H0 : St w S w (BookL b cw mb A cap s ++ []) := by rw [List.append_nil]; exact St.start hs
    by_cases ha : opnA s id dead = 0
    · refine (lOpen_yes H0 ok hid h0 ha).mono fun e w' ⟨he, s'⟩ => ⟨by rw [ha]; exact he, ?_⟩
      have ok2 := ok.opn id dead
      unfold Bk.opn at ok2 ⊢
      rw [if_pos ha] at ok2 ⊢
      rw [List.append_nil] at s'
      exact s'.fin fun S' h => ⟨ok2, cw, mb, A, cap, h⟩
    · refine (lOpen_no H0 ok hid h0 h1 ha).mono fun e w' ⟨he, s'⟩ => ⟨he, ?_⟩
      unfold Bk.opn
      rw [if_neg ha]
      rw [List.append_nil] at s'
      exact s'.fin fun S' h => ⟨ok, cw, mb, A, cap, h⟩) (BookR.ok _ _) H i hi
end
end Go.Proofs.Ythdhfjcgboglfaa
