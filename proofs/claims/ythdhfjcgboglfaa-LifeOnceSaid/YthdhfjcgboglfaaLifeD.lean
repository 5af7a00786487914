/- Layer 19: a book: a request comes out. -/
import Derived.Test.YthdhfjcgboglfaaLifeC
import Derived.Deep.DeepCutAuto
namespace Go.Proofs.Ythdhfjcgboglfaa
open Go.RowKit
set_option linter.unusedVariables false
set_option maxRecDepth 100000
set_option maxHeartbeats 4000000
theorem fvs_one (f : Ft) : ∀ u ∈ fvs [f], u.oneCell' = true := fun u hu => by
  simp [fvs] at hu
  rcases hu with rfl | rfl | rfl <;> rfl
theorem Bk.T_del {s : Bk} {k : Nat} (hk : k < 64) : Bk.T { s with op := updO s.op k none } = updT s.T (k : Int) none := by
  funext i
  show (if 0 ≤ i ∧ i < 64 then (updO s.op k none i.toNat).map (fun x => x.2 - s.cost) else none) = if i = (k : Int) then none else (if 0 ≤ i ∧ i < 64 then (s.op i.toNat).map (fun x => x.2 - s.cost) else none)
  by_cases e : i = (k : Int)
  · subst e
    rw [if_pos rfl, if_pos (by omega), Int.toNat_natCast, updO_self]; rfl
  · rw [if_neg e]
    by_cases h : 0 ≤ i ∧ i < 64
    · rw [if_pos h, if_pos h, updO_ne _ _ (by omega)]
    · rw [if_neg h, if_neg h]
theorem wf_small {i : Int} (h0 : -9223372036854775808 ≤ i) (h1 : i ≤ 9223372036854775807) : wfI i := by
  unfold wfI Lit.wf
  simp [IntKind.min, IntKind.max, IntKind.signed, IntKind.bits]
  omega
/-- What a book is, once a request came out. -/
def Bk.out (s : Bk) (f : Ft) : Bk := match slotO s.op f.id with
  | some k => { s with op := updO s.op k none, un := s.un ++ [f] }
  | none => s
/-- A book on the way. -/
def BookM (b cw mb : Nat) (V : Nat → Value) (now : Int) (T : Int → Option Int) (n : Nat) (M : Int → Option Value) (A : Option Addr) (cap : Nat) (un : List Ft) : List Res :=
  [ArrR b 65 68 V, WheelR cw now T, MapZR Try.prog 3 mb n M, LisR 50 3 (.slice A un.length cap) un.length (fvs un)]
section
variable {w0 w w' : World} {S0 : Nat → Prop} {L X : List Res} {b cw mb cap : Nat} {A : Option Addr} {s : Bk} {id : Int}
theorem lOut_no (H : St w0 S0 w (BookL b cw mb A cap s ++ X)) (f : Ft) (hid : wfI f.id) (hs : slotO s.op f.id = none) : Calls Try.prog 29 #[.pointer (some ⟨b, 0, none⟩), .agg f.cells] w fun e w' => e = .returned (.int .i64 6) ∧ St w0 S0 w' (BookL b cw mb A cap s ++ X) := by
  have s1 := H.front 50 f.cells
  obtain ⟨g, hg⟩ : ∃ g, w.heap.size = g := ⟨_, rfl⟩
  obtain ⟨w1, hw1⟩ : ∃ w1, w.alloc (.cells f.cells 50) = w1 := ⟨_, rfl⟩
  rw [hg, hw1] at s1
  obtain ⟨f0, f1, f2⟩ := (s1.blk 0 rfl).three
  have s2 := s1.alloc (.cells #[.int .i64 0, .int .u64 0] 67)
  obtain ⟨g0, g1, g2⟩ := (s2.blk 0 rfl).three
  have s3 : St w0 S0 w1 (BookL b cw mb A cap s ++ X) := s1.drop 0 (by simp)
  have s4 : St w0 S0 (w1.alloc (.cells #[.int .i64 0, .int .u64 0] 67)) (BookL b cw mb A cap s ++ X) := s2.drop 0 (by simp)
  have c2 := bk_cell s3 (j := 2) (by omega)
  have d2 := bk_cell s4 (j := 2) (by omega)
  unfold bkV at c2 d2
  rw [if_neg (by omega), if_neg (by omega), if_pos rfl] at c2 d2
  have e2 : mapO s.op f.id = none := by unfold mapO; rw [hs]; rfl
  have lk := bk_look s3.drew hid
  have lk2 := bk_look s4.drew hid
  rw [hs, e2] at lk lk2
  have lk : (Instr.lookup 62 (.map (some mb)) (.int .i64 f.id) true).run Try.prog w1.drew = .ok (.tuple #[.agg #[.int .i64 0, .int .u64 0], .bool false]) w1.drew := lk
  have lk2 : (Instr.lookup 62 (.map (some mb)) (.int .i64 f.id) true).run Try.prog (w1.alloc (.cells #[.int .i64 0, .int .u64 0] 67)).drew = .ok (.tuple #[.agg #[.int .i64 0, .int .u64 0], .bool false]) (w1.alloc (.cells #[.int .i64 0, .int .u64 0] 67)).drew := lk2
  have S4 := Lib.hid s4
  clear H s1 s2 s3 s4 hs e2
  go_enter Try.func29, Try.ntmps29
  go_wp2_with fail
  go_region
  all_goals
    go_wp2_with fail
    go_ret
    exact ⟨rfl, S4.out.drew⟩
theorem lOut_yes (H : St w0 S0 w (BookL b cw mb A cap s ++ X)) (ok : s.ok) (f : Ft) {k : Nat} (hs : slotO s.op f.id = some k) (hun : s.un.length ≤ 100000) : Calls Try.prog 29 #[.pointer (some ⟨b, 0, none⟩), .agg f.cells] w fun e w' => e = .returned (.int .i64 0) ∧ ∃ A' cap', St w0 S0 w' (BookL b cw mb A' cap' { s with op := updO s.op k none, un := s.un ++ [f] } ++ X) := by
  obtain ⟨iF, hiF, hzF, hsF, hbF⟩ := info3l YthdhfjcgboglfaaiFt
  obtain ⟨hk6, d, hop⟩ := slot_some hs
  have hbd := ok.bd k _ hop
  dsimp only at hbd
  have hid : wfI f.id := wf_small (by omega) (by omega)
  have hkw : wfI (k : Int) := wf_small (by omega) (by omega)
  have s1 := H.front 50 f.cells
  obtain ⟨g, hg⟩ : ∃ g, w.heap.size = g := ⟨_, rfl⟩
  obtain ⟨w1, hw1⟩ : ∃ w1, w.alloc (.cells f.cells 50) = w1 := ⟨_, rfl⟩
  rw [hg, hw1] at s1
  obtain ⟨f0, f1, f2⟩ := (s1.blk 0 rfl).three
  have s2 := s1.front 67 #[.int .i64 (k : Int), .int .u64 d]
  obtain ⟨g5, hg5⟩ : ∃ g, w1.heap.size = g := ⟨_, rfl⟩
  rw [hg5] at s2
  obtain ⟨g0, g1, g2⟩ := (s2.blk 1 rfl).three
  have s3 : St w0 S0 w1 (BookL b cw mb A cap s ++ X) := s1.drop 0 (by simp)
  have s4 : St w0 S0 (w1.alloc (.cells #[.int .i64 (k : Int), .int .u64 d] 67)) (BookL b cw mb A cap s ++ X) := (s2.drop 0 (by simp)).drop 0 (by simp)
  have c2 := bk_cell s3 (j := 2) (by omega)
  have d2 := bk_cell s4 (j := 2) (by omega)
  unfold bkV at c2 d2
  rw [if_neg (by omega), if_neg (by omega), if_pos rfl] at c2 d2
  have e2 : mapO s.op f.id = some (.agg #[.int .i64 (k : Int), .int .u64 d]) := by
    unfold mapO; rw [hs]; show some (mapF s.op k) = _; unfold mapF; rw [hop]; rfl
  have lk := bk_look s3.drew hid
  have lk2 := bk_look s4.drew hid
  rw [hs, e2] at lk lk2
  have lk : (Instr.lookup 62 (.map (some mb)) (.int .i64 f.id) true).run Try.prog w1.drew = .ok (.tuple #[.agg #[.int .i64 (k : Int), .int .u64 d], .bool true]) w1.drew := lk
  have lk2 : (Instr.lookup 62 (.map (some mb)) (.int .i64 f.id) true).run Try.prog (w1.alloc (.cells #[.int .i64 0, .int .u64 0] 67)).drew = .ok (.tuple #[.agg #[.int .i64 (k : Int), .int .u64 d], .bool true]) (w1.alloc (.cells #[.int .i64 0, .int .u64 0] 67)).drew := by
    have h := bk_look (s3.alloc (.cells #[.int .i64 0, .int .u64 0] 67)).drew hid
    rw [hs, e2] at h; exact h
  have z0 := (s1.alloc (.cells #[.int .i64 0, .int .u64 0] 67)).blk 0 rfl
  obtain ⟨z0, z1, z2⟩ := z0.three
  have z3 := bk_cell (s3.alloc (.cells #[.int .i64 0, .int .u64 0] 67)) (j := 2) (by omega)
  unfold bkV at z3
  rw [if_neg (by omega), if_neg (by omega), if_pos rfl] at z3
  have S2 := Lib.hid s2
  have HOK := Lib.hid ok
  have HOP := Lib.hid hop
  clear H s1 s2 s3 s4 hs e2 ok hop
  go_enter Try.func29, Try.ntmps29
  go_wp2_with fail
  go_cut [5, 6] (fun x5 x6 wx => x5 = .pointer (some ⟨g5, 0, none⟩) ∧ x6 = .bool true ∧ wx = (w1.alloc (.cells #[.int .i64 (k : Int), .int .u64 d] 67)).drew)
  case first =>
    go_region
    all_goals
      go_wp2_with fail
      go_meet
      exact ⟨rfl, rfl, rfl⟩
  case rest =>
  obtain ⟨rfl, rfl, rfl⟩ := hcut
  clear c2 d2 z0 z1 z2 z3 lk lk2 f0 f1 f2 g0 g1 g2
  have S3 := Lib.hid S2.out.drew
  clear S2 hg5 hw1 hg
  generalize (w1.alloc (.cells #[.int .i64 (k : Int), .int .u64 d] 67)).drew = w2 at *
  obtain ⟨h0, h1⟩ := (S3.out.blk 0 rfl).two
  obtain ⟨g0, g1, g2⟩ := (S3.out.blk 1 rfl).three
  have c1 := S3.out.arr_cell 2 rfl (k := 1) (by omega)
  unfold bkV at c1
  rw [if_neg (by omega), if_pos rfl] at c1
  obtain ⟨wa, hwa⟩ : ∃ wa : Int, (if (s.T (k : Int)).isSome = true then 0 else 6) = wa := ⟨_, rfl⟩
  have WC := Lib.hid (wCancel_o S3.out.drew 3 rfl hkw)
  rw [hwa] at WC
  clear S3 hwa
  go_wp2_with fail
  go_cut [] (fun wx => St w0 S0 wx (BlkR g5 67 #[.int .i64 (k : Int), .int .u64 d] :: BlkR g 50 f.cells :: (BookM b cw mb (bkV s cw mb A cap) s.now (updT s.T (k : Int) none) (cntO s.op) (mapO s.op) A cap s.un ++ X)))
  case first =>
    go_region_law (first
      | (go_simp; refine WC.out.mono ?_; rintro e3 w3 ⟨rfl, s3⟩; have S4 := Lib.hid s3; clear s3))
    all_goals
      go_wp2_with fail
      go_meet
      exact S4.out
  case rest =>
  clear WC h0 h1 g0 g1 g2 c1
  have S4 := Lib.hid hcut
  obtain ⟨h0, h1⟩ := (S4.out.blk 0 rfl).two
  have c1 := S4.out.arr_cell 2 rfl (k := 3 + k) (by omega)
  have c2 := S4.out.arr_frozen 2 rfl (3 + k)
  unfold bkV at c1
  rw [if_neg (by omega), if_neg (by omega), if_neg (by omega), if_pos (by omega)] at c1
  have v0 : (0 : Int) ≤ (k : Int) := by omega
  have v1 : (k : Int) < 64 := by omega
  obtain ⟨V1, hV1⟩ : ∃ V1 : Nat → Value, V1 = fun j => if j = 3 + k then .int .i64 (-1) else bkV s cw mb A cap j := ⟨_, rfl⟩
  have S5 := Lib.hid (show St w0 S0 (wc.setCell ⟨b, 3 + k, none⟩ (.int .i64 (-1))) (BlkR g5 67 #[.int .i64 (k : Int), .int .u64 d] :: BlkR g 50 f.cells :: (BookM b cw mb V1 s.now (updT s.T (k : Int) none) (cntO s.op) (mapO s.op) A cap s.un ++ X)) by rw [hV1]; exact S4.out.arr_set 2 rfl (by omega) _)
  have HV1 := Lib.hid hV1
  have HVN := Lib.hid (show ∀ j, j ≠ 3 + k → V1 j = bkV s cw mb A cap j from fun j hj => by rw [hV1]; exact if_neg hj)
  clear hcut S4 hV1
  go_wp2_with fail
  go_cut [] (fun wx => St w0 S0 wx (BlkR g5 67 #[.int .i64 (k : Int), .int .u64 d] :: BlkR g 50 f.cells :: (BookM b cw mb V1 s.now (updT s.T (k : Int) none) (cntO s.op) (mapO s.op) A cap s.un ++ X)))
  case first =>
    go_region
    all_goals
      go_wp2_with fail
      go_meet
      exact S5.out.drew
  case rest =>
  clear S5 h0 h1 c1 c2 v0 v1
  have S6 := Lib.hid hcut.drew
  obtain ⟨g0, g1, g2⟩ := (S6.out.blk 1 rfl).three
  have c2 := S6.out.arr_cell 2 rfl (k := 2) (by omega)
  rw [HVN.out 2 (by omega)] at c2
  unfold bkV at c2
  rw [if_neg (by omega), if_neg (by omega), if_pos rfl] at c2
  have MZ := Lib.hid (S6.out.mapz 4 rfl)
  clear hcut
  go_wp2_with fail
  go_cut [] (fun wx => St w0 S0 wx (BlkR g5 67 #[.int .i64 (k : Int), .int .u64 d] :: BlkR g 50 f.cells :: (BookM b cw mb V1 s.now (updT s.T (k : Int) none) (cntO s.op - if (mapO s.op f.id).isSome = true then 1 else 0) (updI (mapO s.op) f.id none) A cap s.un ++ X)))
  case first =>
    go_region_law (first
      | (refine step_mapZ_del (by rfl) _ _ 62 3 (by rfl) 67 Try.underlying3 Try.underlying62 mb (cntO s.op) (mapO s.op) (by rfl) MZ.out f.id hid (by rfl) ?_; intro w3 hm3 hg3; have S7 := Lib.hid (S6.out.mapz_turn 4 rfl hm3 hg3); clear hm3 hg3))
    all_goals
      go_wp2_with fail
      go_meet
      exact S7.out
  case rest =>
  clear MZ c2 g0 g1 g2 S6
  have e2 : mapO s.op f.id = some (mapF s.op k) := by unfold mapO; rw [HOK.out.U.slot HOP.out]; rfl
  have ec : cntO s.op - (if (mapO s.op f.id).isSome = true then 1 else 0) = cntO (updO s.op k none) := by
    rw [e2, if_pos (show (some (mapF s.op k)).isSome = true from rfl)]
    have := cntO_del hk6 HOP.out
    omega
  rw [ec, ← mapO_del HOK.out.U HOP.out] at hcut
  have K0 := (hcut.drop 0 (by simp))
  have s7 := (K0.alloc (.cells f.cells 50)).drew
  obtain ⟨g0, g1, g2⟩ := (K0.blk 0 rfl).three
  obtain ⟨x0, x1, x2⟩ := ((K0.alloc (.cells f.cells 50)).blk 0 rfl).three
  have c1 := K0.arr_cell 1 rfl (k := 67) (by omega)
  have c3 := (K0.alloc (.cells f.cells 50)).arr_cell 1 rfl (k := 67) (by omega)
  rw [HVN.out 67 (by omega)] at c1 c3
  unfold bkV at c1 c3
  rw [if_neg (by omega), if_neg (by omega), if_neg (by omega), if_neg (by omega)] at c1 c3
  have sN := (K0.lis_new 50 3 1 f.cells rfl (by unfold maxLen; omega)).comm
  have RB := Lib.hid (show Rds ((wc.alloc (.cells f.cells 50)).drew) (some ⟨wc.heap.size, 0, none⟩) 1 3 (fvs [f]) from (sN.drew.lis 0 rfl).reads)
  obtain ⟨nu, hnu⟩ : ∃ nu, s.un.length = nu := ⟨_, rfl⟩
  rw [hnu] at hun c1 c3
  have s7 : St w0 S0 ((wc.alloc (.cells f.cells 50)).drew) ([BlkR g 50 f.cells, ArrR b 65 68 V1, WheelR cw s.now (updT s.T (k : Int) none), MapZR Try.prog 3 mb (cntO (updO s.op k none)) (mapO (updO s.op k none)), LisR 50 3 (.slice A nu cap) nu (fvs s.un)] ++ X) := by rw [← hnu]; exact s7
  have HL4 := Lib.hid (s7.lis 4 rfl)
  have S7 := Lib.hid s7
  have HNU := Lib.hid hnu
  clear hcut K0 s7 sN e2 ec hnu
  go_wp2_with fail
  go_region_law (first
    | (refine step_lis (by rfl) _ _ _ (by rfl) 50 iF (.agg #[.int .i64 0, .int .i64 0, .int .i64 0]) 3 24 Try.underlying31 hiF hzF hsF hbF (by rfl) (by omega) (.slice A nu cap) nu (fvs s.un) (by rfl) HL4.out _ 1 1 (fvs [f]) (by rfl) RB.out (fvs_one f) (by unfold maxLen; omega) (by omega) ?_; intro D cD w5 hl hg hat; have t5 := S7.out.lis_put 4 rfl hl hg hat; have m1 := t5.arr_cell 1 rfl (k := 67) (by omega); rw [HVN.out 67 (by omega)] at m1; unfold bkV at m1; rw [if_neg (by omega), if_neg (by omega), if_neg (by omega), if_neg (by omega)] at m1; have m2 := t5.arr_frozen 1 rfl 67; have T6 := Lib.hid (t5.arr_set 1 rfl (k := 67) (by omega) (.slice D (nu + 1) cD)); clear hl hg hat t5))
  all_goals
    go_wp2_with fail
    go_ret
    refine ⟨rfl, D, cD, ?_⟩
    have T7 := T6.out.drop 0 (by simp)
    have T8 := T7.arr_like (V' := bkV { s with op := updO s.op k none, un := s.un ++ [f] } cw mb D cD) 0 rfl (fun j hj => by
      show bkV _ cw mb D cD j = if j = 67 then .slice D (nu + 1) cD else V1 j
      rw [show V1 j = if j = 3 + k then .int .i64 (-1) else bkV s cw mb A cap j by rw [HV1.out]]
      unfold bkV
      dsimp only
      by_cases e0 : j = 0
      · subst e0; rw [if_pos rfl, if_neg (by omega), if_neg (by omega), if_pos rfl]
      by_cases e1 : j = 1
      · subst e1; rw [if_neg e0, if_pos rfl, if_neg (by omega), if_neg (by omega), if_neg e0, if_pos rfl]
      by_cases e2 : j = 2
      · subst e2; rw [if_neg e0, if_neg e1, if_pos rfl, if_neg (by omega), if_neg (by omega), if_neg e0, if_neg e1, if_pos rfl]
      by_cases e3 : j < 67
      · rw [if_neg e0, if_neg e1, if_neg e2, if_pos e3, if_neg (by omega)]
        unfold wsO
        by_cases e4 : j = 3 + k
        · rw [if_pos e4, show j - 3 = k by omega, updO_self]
        · rw [if_neg e4, if_neg e0, if_neg e1, if_neg e2, if_pos e3, updO_ne _ _ (by omega)]
      · obtain rfl : j = 67 := by omega
        rw [if_neg e0, if_neg e1, if_neg e2, if_neg e3, if_pos rfl, List.length_append, HNU.out]; rfl)
    have e5 : Bk.T { s with op := updO s.op k none, un := s.un ++ [f] } = updT s.T (k : Int) none := Bk.T_del hk6
    show St w0 S0 _ ([_, WheelR cw s.now (Bk.T { s with op := updO s.op k none, un := s.un ++ [f] }), _, LisR _ 3 (.slice D (s.un ++ [f]).length cD) (s.un ++ [f]).length (fvs (s.un ++ [f]))] ++ X)
    rw [e5, fvs_app, List.length_append, HNU.out]
    exact T8
end
end Go.Proofs.Ythdhfjcgboglfaa
