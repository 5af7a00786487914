/-
  For all tasks and loads and all that is added RtaMore answers true, and changes nothing: a task or a load that is added makes no other one's answer time less, which is at least the cost and at most the time by which a job must be done. No condition.
-/
import Derived.Test.YthbghenikooagaaRows
import Derived.Test.YthbghenikooagaaFr
import Derived.Test.YthbghenikooagaaRtaN
import Derived.Test.YthbghenikooagaaOpen
import Derived.Deep.DeepCutAuto
namespace Go.Proofs.Ythbghenikooagaa.rtaMore
open Go.ChangeShapes Go.WideShapes Go.ChangeAt Go.RowKit
set_option linter.unusedVariables false
theorem own : ownKnob Try.prog.godebug = none := by kernel_rfl
theorem laid : laidOutB Try.prog = true := by kernel_rfl
set_option maxRecDepth 100000
set_option maxHeartbeats 8000000
theorem walk (A B : Option Addr) (n cap m capB : Nat) (T : Nat → Wk) (S : Nat → Ld) (p c r d q v sp : Int) (w : World) (hn : n ≤ maxLen) (hm : m ≤ maxLen) (rd : Ts w A n T) (rdS : Ls w B m S) (ht : LTyped m S) (hv : 0 ≤ v ∧ v ≤ 18446744073709551615) (hq : -9223372036854775808 ≤ q ∧ q ≤ 9223372036854775807) :
    Calls Try.prog 3 #[.slice A n cap, .slice B m capB, .agg #[.int .i64 p, .int .u64 c, .int .u64 r, .int .u64 d, .int .i64 q, .int .u64 v, .int .u64 sp]] w fun e w' => e = .returned (.bool true) ∧ Below w.heap.size w w' := by
  obtain ⟨iW, hiW, hzW, hsW, hbW⟩ := rinfo_parts Try.infoWk
  obtain ⟨iL, hiL, hzL, hsL, hbL⟩ := rinfo_parts Try.infoLd
  have s0 : St w None (w.alloc (.cells #[.int .i64 p, .int .u64 c, .int .u64 r, .int .u64 d, .int .i64 q, .int .u64 v, .int .u64 sp] 30)) [BlkR w.heap.size 30 #[.int .i64 p, .int .u64 c, .int .u64 r, .int .u64 d, .int .i64 q, .int .u64 v, .int .u64 sp]] := (St.begin w).box _ _
  have S0' := Lib.hid s0
  have RD := Lib.hid (fun W (hW : Below w.heap.size w W) => rd.below hW)
  have RS := Lib.hid (fun W (hW : Below w.heap.size w W) => rdS.below hW)
  have SM := Lib.hid (fun W (hW : Below w.heap.size w W) => small_c (cap := cap) (capB := capB) (B := B) (rd.below hW) hn hm)
  have TM := Lib.hid (fun W (hW : Below w.heap.size w W) => rtmay_c (cap := cap) (rd.below hW) hn _ rfl)
  have LM := Lib.hid (fun W (hW : Below w.heap.size w W) => rsmay_c (cap := capB) (rdS.below hW) ht hm _ rfl)
  have TI := Lib.hid (fun W (hW : Below w.heap.size w W) i o ho => time_c (cap := cap) (capB := capB) (rd.below hW) (rdS.below hW) ht hn hm i o ho)
  have TX := Lib.hid (fun W (hW : Below w.heap.size w W) C cp (h : Ts W C (n + 1) (snoc T n ⟨p, c, r, d⟩)) (hn1 : n + 1 ≤ maxLen) i o ho => time_c (cap := cp) (capB := capB) h (rdS.below hW) ht hn1 hm i o ho)
  have HT2 := Lib.hid (show LTyped (m + 1) (snocL S m ⟨q, v⟩) from fun j hj => by
    by_cases e : j = m
    · rw [e, snocL_new]; exact ⟨hq, hv⟩
    · rw [snocL_old S _ (by omega)]; exact ht j (by omega))
  have TY := Lib.hid (fun W (hW : Below w.heap.size w W) C cp (h : Ls W C (m + 1) (snocL S m ⟨q, v⟩)) (hm1 : m + 1 ≤ maxLen) i o ho => time_c (cap := cap) (capB := cp) (rd.below hW) h HT2.out hn hm1 i o ho)
  have WN := Lib.hid (fun W (hW : Below w.heap.size w W) hT hS i i0 i1 s h0 h1 r hr => wants_c (cap := cap) (capB := capB) (rd.below hW) (rdS.below hW) hT hS i i0 i1 s h0 h1 r hr)
  have HSN := Lib.hid (snoc_wkc T n ⟨p, c, r, d⟩)
  have HSL := Lib.hid (snocL_ldc S m ⟨q, v⟩)
  have LT1 := Lib.hid (show LTyped 1 (fun _ => (⟨q, v⟩ : Ld)) from fun j hj => ⟨hq, hv⟩)
  unfold maxLen at hn hm
  clear rd rdS ht s0 hv hq
  go_enter Try.func3, Try.ntmps3
  go_wp2_with fail
  refine (awake_o S0'.out).mono ?_
  rintro e w1 ⟨rfl, s1⟩
  have h0 := (s1.blk 0 rfl).cell 0
  have h1 := (s1.blk 0 rfl).cell 1
  have h2 := (s1.blk 0 rfl).cell 2
  have h3 := (s1.blk 0 rfl).cell 3
  have h4 := (s1.blk 0 rfl).cell 4
  have h5 := (s1.blk 0 rfl).cell 5
  simp only [List.getElem?_toArray, List.getElem?_cons_zero, List.getElem?_cons_succ] at h0 h1 h2 h3 h4 h5
  have sW := s1.box 26 (Wk.cells ⟨p, c, r, d⟩)
  have i4 := (sW.blk 0 rfl).cell 4
  have i5 := (sW.blk 0 rfl).cell 5
  simp only [List.getElem?_toArray, List.getElem?_cons_zero, List.getElem?_cons_succ] at i4 i5
  have sL := sW.box 28 (Ld.cells ⟨q, v⟩)
  rw [show (w1.alloc (.cells (Wk.cells ⟨p, c, r, d⟩) 26)).heap.size = w1.heap.size + 1 by simp] at sL
  have sL2 : St w None _ [BlkR w.heap.size 30 #[.int .i64 p, .int .u64 c, .int .u64 r, .int .u64 d, .int .i64 q, .int .u64 v, .int .u64 sp], BlkR w1.heap.size 26 (Wk.cells ⟨p, c, r, d⟩), BlkR (w1.heap.size + 1) 28 (Ld.cells ⟨q, v⟩)] := sL
  have SL := Lib.hid sL2
  clear S0' s1 sW sL sL2
  go_wp2_with fail
  refine (SM.out _ SL.out.below).mono ?_
  rintro e w2 ⟨b, rfl, -, hb2⟩
  have S2 := Lib.hid (SL.out.stay hb2)
  clear hb2 SM SL h0 h1 h2 h3 h4 h5 i4 i5
  generalize w1.heap.size = g1 at *
  cases b with
  | false =>
    go_wp2_with fail
    go_ret
    exact ⟨rfl, S2.out.below⟩
  | true =>
  obtain ⟨k0, k1, k2, k3⟩ := (S2.out.blk 1 rfl).four
  have SO := Lib.hid (small_c (cap := 1) (B := none) (m := 0) (capB := 0) (blk_ts1 (T := T1 ⟨p, c, r, d⟩) (Blk.new w2 26 (Wk.cells ⟨p, c, r, d⟩)) rfl) (by unfold maxLen; omega) (by unfold maxLen; omega))
  have SB := Lib.hid (S2.out.alloc (.cells (Wk.cells ⟨p, c, r, d⟩) 26))
  go_wp2_with fail
  refine SO.out.mono ?_
  rintro e w3 ⟨b, rfl, -, hb3⟩
  have S3 := Lib.hid (SB.out.stay hb3)
  clear hb3 SO SB k0 k1 k2 k3
  cases b with
  | false =>
    go_wp2_with fail
    go_ret
    exact ⟨rfl, S3.out.below⟩
  | true =>
  go_wp2_with fail
  refine (TM.out w3 S3.out.below).mono ?_
  rintro e w4 ⟨rfl, hb4⟩
  have S4 := Lib.hid (S3.out.stay hb4)
  clear hb4
  by_cases hT : TOK n T
  case neg =>
    have e1 : decide (TOK n T) = false := decide_eq_false hT
    rw [e1]
    clear e1 hT
    go_wp2_with fail
    go_ret
    exact ⟨rfl, S4.out.below⟩
  have e1 : decide (TOK n T) = true := decide_eq_true hT
  rw [e1]
  have HT := Lib.hid hT
  clear e1 hT
  go_wp2_with fail
  refine (LM.out w4 S4.out.below).mono ?_
  rintro e w5 ⟨rfl, hb5⟩
  have S5 := Lib.hid (S4.out.stay hb5)
  clear hb5
  by_cases hS : SOK m S
  case neg =>
    have e1 : decide (SOK m S) = false := decide_eq_false hS
    rw [e1]
    clear e1 hS
    go_wp2_with fail
    go_ret
    exact ⟨rfl, S5.out.below⟩
  have e1 : decide (SOK m S) = true := decide_eq_true hS
  rw [e1]
  have HS := Lib.hid hS
  clear e1 hS
  obtain ⟨k0, k1, k2, k3⟩ := (S5.out.blk 1 rfl).four
  go_wp2_with fail
  refine (rwmay p c r d w5 _ rfl).mono ?_
  rintro e w6 ⟨rfl, hb6⟩
  have S6 := Lib.hid (S5.out.stay hb6)
  clear hb6 k0 k1 k2 k3
  by_cases hW : Wk.ok ⟨p, c, r, d⟩
  case neg =>
    have e1 : decide (Wk.ok ⟨p, c, r, d⟩) = false := decide_eq_false hW
    rw [e1]
    clear e1 hW
    go_wp2_with fail
    go_ret
    exact ⟨rfl, S6.out.below⟩
  have e1 : decide (Wk.ok ⟨p, c, r, d⟩) = true := decide_eq_true hW
  rw [e1]
  have HW := Lib.hid hW
  clear e1 hW
  obtain ⟨k4, k5⟩ := (S6.out.blk 2 rfl).two
  have LO := Lib.hid (rsmay_c (cap := 1) (blk_ls1 (S := fun _ => (⟨q, v⟩ : Ld)) (Blk.new w6 28 (Ld.cells ⟨q, v⟩)) rfl) LT1.out (by unfold maxLen; omega) _ rfl)
  have SB := Lib.hid (S6.out.alloc (.cells (Ld.cells ⟨q, v⟩) 28))
  go_wp2_with fail
  refine LO.out.mono ?_
  rintro e w7 ⟨rfl, hb7⟩
  have S7 := Lib.hid (SB.out.stay hb7)
  clear hb7 LO SB k4 k5
  by_cases hL : SOK 1 (fun _ => (⟨q, v⟩ : Ld))
  case neg =>
    have e1 : decide (SOK 1 (fun _ => (⟨q, v⟩ : Ld))) = false := decide_eq_false hL
    rw [e1]
    clear e1 hL
    go_wp2_with fail
    go_ret
    exact ⟨rfl, S7.out.below⟩
  have e1 : decide (SOK 1 (fun _ => (⟨q, v⟩ : Ld))) = true := decide_eq_true hL
  rw [e1]
  have HL := Lib.hid (hL.2 0 (by omega))
  clear e1 hL
  by_cases h31 : 31 < n
  · have d0 : decide (31 < (n : Int)) = true := decide_eq_true (by omega)
    have d0' : decide (31 < n) = true := decide_eq_true h31
    go_wp2_with fail
    go_ret
    exact ⟨rfl, S7.out.below⟩
  have d0 : decide (31 < (n : Int)) = false := decide_eq_false (by omega)
  have d0' : decide (31 < n) = false := decide_eq_false h31
  by_cases h15 : 15 < m
  · have d2 : decide (15 < (m : Int)) = true := decide_eq_true (by omega)
    have d2' : decide (15 < m) = true := decide_eq_true h15
    go_wp2_with fail
    go_ret
    exact ⟨rfl, S7.out.below⟩
  have d2 : decide (15 < (m : Int)) = false := decide_eq_false (by omega)
  have d2' : decide (15 < m) = false := decide_eq_false h15
  obtain ⟨k0, k1, k2, k3⟩ := (S7.out.blk 1 rfl).four
  obtain ⟨e0, e1, e2, e3⟩ := ((S7.out.lis_new 26 4 0 #[] rfl (by unfold maxLen; omega)).blk 1 rfl).four
  have SR := S7
  clear S7 S6 S5 S4 S3 S2 TM LM
  generalize w7 = wr at *
  have q0W := SR.out.drew
  have zWE := q0W.lis_new 26 4 0 #[] rfl (by unfold maxLen; omega)
  have zWX := q0W.box 26 (Wk.cells ⟨p, c, r, d⟩)
  have zWEX := zWE.box 26 (Wk.cells ⟨p, c, r, d⟩)
  have zWXE := zWX.lis_new 26 4 0 #[] rfl (by unfold maxLen; omega)
  rw [show (wr.drew.alloc (.cells #[] 26)).heap.size = wr.heap.size + 1 by simp] at zWEX
  rw [show (wr.drew.alloc (.cells (Wk.cells ⟨p, c, r, d⟩) 26)).heap.size = wr.heap.size + 1 by simp] at zWXE
  have ZWE := Lib.hid zWE
  have ZWEX := Lib.hid zWEX
  have ZWXE := Lib.hid zWXE
  have RWE := Lib.hid (ts_rds (RD.out _ zWE.below))
  have RWEX := Lib.hid (ts_rds (RD.out _ zWEX.below))
  have RWXE := Lib.hid (ts_rds (RD.out _ zWXE.below))
  clear q0W zWE zWX zWEX zWXE
  go_upto_region 7 with (fail)
  go_cut [9] (fun o wx => ∃ B c', o = .slice B (n + 1) c' ∧ St w None wx ([BlkR w.heap.size 30 #[.int .i64 p, .int .u64 c, .int .u64 r, .int .u64 d, .int .i64 q, .int .u64 v, .int .u64 sp], BlkR g1 26 (Wk.cells ⟨p, c, r, d⟩), BlkR (g1 + 1) 28 (Ld.cells ⟨q, v⟩)] ++ [WkR B c' (n + 1) (snoc T n ⟨p, c, r, d⟩)]))
  case first =>
    go_region_law (first
      | (refine step_lis (by rfl) _ _ _ (by rfl) 26 iW (.agg #[.int .i64 0, .int .u64 0, .int .u64 0, .int .u64 0]) 4 32 Try.underlying22 hiW hzW hsW hbW (by rfl) (by omega) (.slice (some ⟨wr.heap.size, 0, none⟩) 0 0) 0 [] (by rfl) (ZWE.out.lis 3 rfl) A n cap (wkc T n) (by rfl) RWE.out (wkc_one T n) (by unfold maxLen; omega) (by omega) ?_; intro BW6 cW6 wW6 hl hg hat; have t6 := ZWE.out.lis_put 3 rfl hl hg hat; simp only [Nat.zero_add, List.nil_append] at t6 ⊢; obtain ⟨q50, q51, q52, q53⟩ := (show wW6.cell? ⟨g1, 0, none⟩ = some (.int .i64 p) ∧ wW6.cell? ⟨g1, 1, none⟩ = some (.int .u64 c) ∧ wW6.cell? ⟨g1, 2, none⟩ = some (.int .u64 r) ∧ wW6.cell? ⟨g1, 3, none⟩ = some (.int .u64 d) from (t6.blk 1 rfl).four); have PWE := Lib.hid t6; clear hl hg hat t6)
      | (refine step_lis (by rfl) _ _ _ (by rfl) 26 iW (.agg #[.int .i64 0, .int .u64 0, .int .u64 0, .int .u64 0]) 4 32 Try.underlying22 hiW hzW hsW hbW (by rfl) (by omega) (.slice (some ⟨wr.heap.size, 0, none⟩) 0 0) 0 [] (by rfl) (ZWEX.out.lis 3 rfl) A n cap (wkc T n) (by rfl) RWEX.out (wkc_one T n) (by unfold maxLen; omega) (by omega) ?_; intro BW6 cW6 wW6 hl hg hat; have t6 := ZWEX.out.lis_put 3 rfl hl hg hat; simp only [Nat.zero_add, List.nil_append] at t6 ⊢; have PWEX := Lib.hid t6; clear hl hg hat t6)
      | (refine step_lis (by rfl) _ _ _ (by rfl) 26 iW (.agg #[.int .i64 0, .int .u64 0, .int .u64 0, .int .u64 0]) 4 32 Try.underlying22 hiW hzW hsW hbW (by rfl) (by omega) (.slice (some ⟨wr.heap.size + 1, 0, none⟩) 0 0) 0 [] (by rfl) (ZWXE.out.lis 4 rfl) A n cap (wkc T n) (by rfl) RWXE.out (wkc_one T n) (by unfold maxLen; omega) (by omega) ?_; intro BW6 cW6 wW6 hl hg hat; have t6 := ZWXE.out.lis_put 4 rfl hl hg hat; simp only [Nat.zero_add, List.nil_append] at t6 ⊢; have PWXE := Lib.hid t6; clear hl hg hat t6)
      | (refine step_lis (by rfl) _ _ _ (by rfl) 26 iW (.agg #[.int .i64 0, .int .u64 0, .int .u64 0, .int .u64 0]) 4 32 Try.underlying22 hiW hzW hsW hbW (by rfl) (by omega) (.slice BW6 n cW6) n (wkc T n) (by rfl) ((PWE.out.alloc _).lis 3 rfl) (some ⟨wW6.heap.size, 0, none⟩) 1 1 (wkl ⟨p, c, r, d⟩) (by rfl) (rds_box4 wW6 _ _ _ _ _) (wkl_one _) (by unfold maxLen; omega) (by omega) ?_; intro BW7 cW7 wW7 hl hg hat; have t7 := (PWE.out.alloc (.cells (Wk.cells ⟨p, c, r, d⟩) 26)).lis_put 3 rfl hl hg hat; have FW := Lib.hid (show St w None wW7 ([BlkR w.heap.size 30 #[.int .i64 p, .int .u64 c, .int .u64 r, .int .u64 d, .int .i64 q, .int .u64 v, .int .u64 sp], BlkR g1 26 (Wk.cells ⟨p, c, r, d⟩), BlkR (g1 + 1) 28 (Ld.cells ⟨q, v⟩)] ++ [WkR BW7 cW7 (n + 1) (snoc T n ⟨p, c, r, d⟩)]) by unfold WkR; rw [HSN.out]; exact t7); clear hl hg hat t7)
      | (refine step_lis (by rfl) _ _ _ (by rfl) 26 iW (.agg #[.int .i64 0, .int .u64 0, .int .u64 0, .int .u64 0]) 4 32 Try.underlying22 hiW hzW hsW hbW (by rfl) (by omega) (.slice BW6 n cW6) n (wkc T n) (by rfl) (PWEX.out.lis 3 rfl) (some ⟨wr.heap.size + 1, 0, none⟩) 1 1 (wkl ⟨p, c, r, d⟩) (by rfl) (rds_blk4 (PWEX.out.blk 4 rfl)) (wkl_one _) (by unfold maxLen; omega) (by omega) ?_; intro BW7 cW7 wW7 hl hg hat; have t7 := (PWEX.out.lis_put 3 rfl hl hg hat).take 4; have FW := Lib.hid (show St w None wW7 ([BlkR w.heap.size 30 #[.int .i64 p, .int .u64 c, .int .u64 r, .int .u64 d, .int .i64 q, .int .u64 v, .int .u64 sp], BlkR g1 26 (Wk.cells ⟨p, c, r, d⟩), BlkR (g1 + 1) 28 (Ld.cells ⟨q, v⟩)] ++ [WkR BW7 cW7 (n + 1) (snoc T n ⟨p, c, r, d⟩)]) by unfold WkR; rw [HSN.out]; exact t7); clear hl hg hat t7)
      | (refine step_lis (by rfl) _ _ _ (by rfl) 26 iW (.agg #[.int .i64 0, .int .u64 0, .int .u64 0, .int .u64 0]) 4 32 Try.underlying22 hiW hzW hsW hbW (by rfl) (by omega) (.slice BW6 n cW6) n (wkc T n) (by rfl) (PWXE.out.lis 4 rfl) (some ⟨wr.heap.size, 0, none⟩) 1 1 (wkl ⟨p, c, r, d⟩) (by rfl) (rds_blk4 (PWXE.out.blk 3 rfl)) (wkl_one _) (by unfold maxLen; omega) (by omega) ?_; intro BW7 cW7 wW7 hl hg hat; have t7 := (PWXE.out.lis_put 4 rfl hl hg hat).drop 3 (by simp); have FW := Lib.hid (show St w None wW7 ([BlkR w.heap.size 30 #[.int .i64 p, .int .u64 c, .int .u64 r, .int .u64 d, .int .i64 q, .int .u64 v, .int .u64 sp], BlkR g1 26 (Wk.cells ⟨p, c, r, d⟩), BlkR (g1 + 1) 28 (Ld.cells ⟨q, v⟩)] ++ [WkR BW7 cW7 (n + 1) (snoc T n ⟨p, c, r, d⟩)]) by unfold WkR; rw [HSN.out]; exact t7); clear hl hg hat t7))
    all_goals
      go_wp2_with fail
      go_meet
      exact ⟨BW7, cW7, rfl, FW.out⟩
  case rest =>
    obtain ⟨BW7, cW7, rfl, sW7⟩ := hcut
    obtain ⟨wW7, hw7⟩ : ∃ x, x = wc := ⟨_, rfl⟩
    subst hw7
    have FW := Lib.hid sW7
    clear sW7
    obtain ⟨k4, k5⟩ := (FW.out.blk 2 rfl).two
    obtain ⟨e0, e1⟩ := ((FW.out.lis_new 28 2 0 #[] rfl (by unfold maxLen; omega)).blk 2 rfl).two
    have q0L := FW.out.drew
    have zLE := q0L.lis_new 28 2 0 #[] rfl (by unfold maxLen; omega)
    have zLX := q0L.box 28 (Ld.cells ⟨q, v⟩)
    have zLEX := zLE.box 28 (Ld.cells ⟨q, v⟩)
    have zLXE := zLX.lis_new 28 2 0 #[] rfl (by unfold maxLen; omega)
    rw [show (wW7.drew.alloc (.cells #[] 28)).heap.size = wW7.heap.size + 1 by simp] at zLEX
    rw [show (wW7.drew.alloc (.cells (Ld.cells ⟨q, v⟩) 28)).heap.size = wW7.heap.size + 1 by simp] at zLXE
    have ZLE := Lib.hid zLE
    have ZLEX := Lib.hid zLEX
    have ZLXE := Lib.hid zLXE
    have RLE := Lib.hid (ls_rds (RS.out _ zLE.below))
    have RLEX := Lib.hid (ls_rds (RS.out _ zLEX.below))
    have RLXE := Lib.hid (ls_rds (RS.out _ zLXE.below))
    clear q0L zLE zLX zLEX zLXE
    go_upto_region 8 with (fail)
    go_cut [10] (fun o wx => ∃ B c', o = .slice B (m + 1) c' ∧ St w None wx ([BlkR w.heap.size 30 #[.int .i64 p, .int .u64 c, .int .u64 r, .int .u64 d, .int .i64 q, .int .u64 v, .int .u64 sp], BlkR g1 26 (Wk.cells ⟨p, c, r, d⟩), BlkR (g1 + 1) 28 (Ld.cells ⟨q, v⟩)] ++ [WkR BW7 cW7 (n + 1) (snoc T n ⟨p, c, r, d⟩)] ++ [LdR B c' (m + 1) (snocL S m ⟨q, v⟩)]))
    case first =>
      go_region_law (first
        | (refine step_lis (by rfl) _ _ _ (by rfl) 28 iL (.agg #[.int .i64 0, .int .u64 0]) 2 16 Try.underlying23 hiL hzL hsL hbL (by rfl) (by omega) (.slice (some ⟨wW7.heap.size, 0, none⟩) 0 0) 0 [] (by rfl) (ZLE.out.lis 4 rfl) B m capB (ldc S m) (by rfl) RLE.out (ldc_one S m) (by unfold maxLen; omega) (by omega) ?_; intro BL6 cL6 wL6 hl hg hat; have t6 := ZLE.out.lis_put 4 rfl hl hg hat; simp only [Nat.zero_add, List.nil_append] at t6 ⊢; obtain ⟨q54, q55⟩ := (show wL6.cell? ⟨g1 + 1, 0, none⟩ = some (.int .i64 q) ∧ wL6.cell? ⟨g1 + 1, 1, none⟩ = some (.int .u64 v) from (t6.blk 2 rfl).two); have PLE := Lib.hid t6; clear hl hg hat t6)
        | (refine step_lis (by rfl) _ _ _ (by rfl) 28 iL (.agg #[.int .i64 0, .int .u64 0]) 2 16 Try.underlying23 hiL hzL hsL hbL (by rfl) (by omega) (.slice (some ⟨wW7.heap.size, 0, none⟩) 0 0) 0 [] (by rfl) (ZLEX.out.lis 4 rfl) B m capB (ldc S m) (by rfl) RLEX.out (ldc_one S m) (by unfold maxLen; omega) (by omega) ?_; intro BL6 cL6 wL6 hl hg hat; have t6 := ZLEX.out.lis_put 4 rfl hl hg hat; simp only [Nat.zero_add, List.nil_append] at t6 ⊢; have PLEX := Lib.hid t6; clear hl hg hat t6)
        | (refine step_lis (by rfl) _ _ _ (by rfl) 28 iL (.agg #[.int .i64 0, .int .u64 0]) 2 16 Try.underlying23 hiL hzL hsL hbL (by rfl) (by omega) (.slice (some ⟨wW7.heap.size + 1, 0, none⟩) 0 0) 0 [] (by rfl) (ZLXE.out.lis 5 rfl) B m capB (ldc S m) (by rfl) RLXE.out (ldc_one S m) (by unfold maxLen; omega) (by omega) ?_; intro BL6 cL6 wL6 hl hg hat; have t6 := ZLXE.out.lis_put 5 rfl hl hg hat; simp only [Nat.zero_add, List.nil_append] at t6 ⊢; have PLXE := Lib.hid t6; clear hl hg hat t6)
        | (refine step_lis (by rfl) _ _ _ (by rfl) 28 iL (.agg #[.int .i64 0, .int .u64 0]) 2 16 Try.underlying23 hiL hzL hsL hbL (by rfl) (by omega) (.slice BL6 m cL6) m (ldc S m) (by rfl) ((PLE.out.alloc _).lis 4 rfl) (some ⟨wL6.heap.size, 0, none⟩) 1 1 (ldw ⟨q, v⟩) (by rfl) (rds_boxL wL6 _ _ _) (ldw_one _) (by unfold maxLen; omega) (by omega) ?_; intro BL7 cL7 wL7 hl hg hat; have t7 := (PLE.out.alloc (.cells (Ld.cells ⟨q, v⟩) 28)).lis_put 4 rfl hl hg hat; have FL := Lib.hid (show St w None wL7 ([BlkR w.heap.size 30 #[.int .i64 p, .int .u64 c, .int .u64 r, .int .u64 d, .int .i64 q, .int .u64 v, .int .u64 sp], BlkR g1 26 (Wk.cells ⟨p, c, r, d⟩), BlkR (g1 + 1) 28 (Ld.cells ⟨q, v⟩)] ++ [WkR BW7 cW7 (n + 1) (snoc T n ⟨p, c, r, d⟩)] ++ [LdR BL7 cL7 (m + 1) (snocL S m ⟨q, v⟩)]) by unfold LdR; rw [HSL.out]; exact t7); clear hl hg hat t7)
        | (refine step_lis (by rfl) _ _ _ (by rfl) 28 iL (.agg #[.int .i64 0, .int .u64 0]) 2 16 Try.underlying23 hiL hzL hsL hbL (by rfl) (by omega) (.slice BL6 m cL6) m (ldc S m) (by rfl) (PLEX.out.lis 4 rfl) (some ⟨wW7.heap.size + 1, 0, none⟩) 1 1 (ldw ⟨q, v⟩) (by rfl) (rds_blkL (PLEX.out.blk 5 rfl)) (ldw_one _) (by unfold maxLen; omega) (by omega) ?_; intro BL7 cL7 wL7 hl hg hat; have t7 := (PLEX.out.lis_put 4 rfl hl hg hat).take 5; have FL := Lib.hid (show St w None wL7 ([BlkR w.heap.size 30 #[.int .i64 p, .int .u64 c, .int .u64 r, .int .u64 d, .int .i64 q, .int .u64 v, .int .u64 sp], BlkR g1 26 (Wk.cells ⟨p, c, r, d⟩), BlkR (g1 + 1) 28 (Ld.cells ⟨q, v⟩)] ++ [WkR BW7 cW7 (n + 1) (snoc T n ⟨p, c, r, d⟩)] ++ [LdR BL7 cL7 (m + 1) (snocL S m ⟨q, v⟩)]) by unfold LdR; rw [HSL.out]; exact t7); clear hl hg hat t7)
        | (refine step_lis (by rfl) _ _ _ (by rfl) 28 iL (.agg #[.int .i64 0, .int .u64 0]) 2 16 Try.underlying23 hiL hzL hsL hbL (by rfl) (by omega) (.slice BL6 m cL6) m (ldc S m) (by rfl) (PLXE.out.lis 5 rfl) (some ⟨wW7.heap.size, 0, none⟩) 1 1 (ldw ⟨q, v⟩) (by rfl) (rds_blkL (PLXE.out.blk 4 rfl)) (ldw_one _) (by unfold maxLen; omega) (by omega) ?_; intro BL7 cL7 wL7 hl hg hat; have t7 := (PLXE.out.lis_put 5 rfl hl hg hat).drop 4 (by simp); have FL := Lib.hid (show St w None wL7 ([BlkR w.heap.size 30 #[.int .i64 p, .int .u64 c, .int .u64 r, .int .u64 d, .int .i64 q, .int .u64 v, .int .u64 sp], BlkR g1 26 (Wk.cells ⟨p, c, r, d⟩), BlkR (g1 + 1) 28 (Ld.cells ⟨q, v⟩)] ++ [WkR BW7 cW7 (n + 1) (snoc T n ⟨p, c, r, d⟩)] ++ [LdR BL7 cL7 (m + 1) (snocL S m ⟨q, v⟩)]) by unfold LdR; rw [HSL.out]; exact t7); clear hl hg hat t7))
      all_goals
        go_wp2_with fail
        go_meet
        exact ⟨BL7, cL7, rfl, FL.out⟩
    case rest =>
      obtain ⟨BL7, cL7, rfl, sL7⟩ := hcut
      obtain ⟨wL7, hwl7⟩ : ∃ x, x = wc := ⟨_, rfl⟩
      subst hwl7
      have FL := Lib.hid sL7
      clear sL7
      clear d0 d0' d2 d2'
      go_wp2_with fail
      go_loopw [11] (fun i wr => ∃ k : Nat, k ≤ n ∧ i = .int .i64 k ∧ St w None wr ([BlkR w.heap.size 30 #[.int .i64 p, .int .u64 c, .int .u64 r, .int .u64 d, .int .i64 q, .int .u64 v, .int .u64 sp], BlkR g1 26 (Wk.cells ⟨p, c, r, d⟩), BlkR (g1 + 1) 28 (Ld.cells ⟨q, v⟩)] ++ [WkR BW7 cW7 (n + 1) (snoc T n ⟨p, c, r, d⟩)] ++ [LdR BL7 cL7 (m + 1) (snocL S m ⟨q, v⟩)])) (fun i _ => n - (intOf i).toNat)
      case atStart => exact ⟨0, by omega, rfl, FL.out⟩
      case round =>
        obtain ⟨k, hk, rfl, sr⟩ := hrel
        by_cases hlt : k < n
        ·
          obtain ⟨o1, ho1⟩ : ∃ o, timeO n T m S (k : Int) = o := ⟨_, rfl⟩
          obtain ⟨o2, ho2⟩ : ∃ o, timeO (n + 1) (snoc T n ⟨p, c, r, d⟩) m S (k : Int) = o := ⟨_, rfl⟩
          obtain ⟨o3, ho3⟩ : ∃ o, timeO n T (m + 1) (snocL S m ⟨q, v⟩) (k : Int) = o := ⟨_, rfl⟩
          have F2 := Lib.hid (show ∀ x, o2 = some x → ∃ t, o1 = some t ∧ t ≤ x from fun x hx => by rw [← ho1]; exact less_task HT.out (by omega) HW.out HS.out hlt (by rw [ho2, hx]))
          have F3 := Lib.hid (show ∀ x, o3 = some x → ∃ t, o1 = some t ∧ t ≤ x from fun x hx => by rw [← ho1]; exact less_load HT.out HS.out (by omega) HL.out hlt (by rw [ho3, hx]))
          have F1 := Lib.hid (show ∀ x, o1 = some x → (T k).cost.toNat ≤ x ∧ x ≤ (T k).dead.toNat ∧ Fx (T k).cost.toNat (whoL T S n m k) x = x from fun x hx => time_bd HT.out HS.out hlt (by rw [ho1, hx]))
          have C1 := Lib.hid (TI.out wr sr.below k o1 ho1.symm)
          have G2 := Lib.hid ho2.symm
          have G3 := Lib.hid ho3.symm
          have SR := Lib.hid sr
          obtain ⟨z1, hz1⟩ : ∃ z, oNat o1 = z := ⟨_, rfl⟩
          obtain ⟨z2, hz2⟩ : ∃ z, oNat o2 = z := ⟨_, rfl⟩
          obtain ⟨z3, hz3⟩ : ∃ z, oNat o3 = z := ⟨_, rfl⟩
          obtain ⟨b1, hb1⟩ : ∃ z, o1.isSome = z := ⟨_, rfl⟩
          obtain ⟨b2, hb2⟩ : ∃ z, o2.isSome = z := ⟨_, rfl⟩
          obtain ⟨b3, hb3⟩ : ∃ z, o3.isSome = z := ⟨_, rfl⟩
          rw [hz1, hb1] at C1
          have HZ := Lib.hid (And.intro hz1 (And.intro hz2 hz3))
          have HB := Lib.hid (And.intro hb1 (And.intro hb2 hb3))
          clear ho1 ho2 ho3 sr hz1 hz2 hz3 hb1 hb2 hb3
          go_wp2_with fail
          refine C1.out.mono ?_
          rintro e v5 ⟨rfl, hb5⟩
          have S5 := Lib.hid (SR.out.stay hb5)
          have C2 := TX.out v5 S5.out.below BW7 cW7 (lis_ts (S5.out.lis 3 rfl)) (by unfold maxLen; omega) k o2 G2.out
          rw [HZ.out.2.1, HB.out.2.1] at C2
          have D2 := Lib.hid C2
          clear C2 C1 hb5
          go_wp2_with fail
          refine D2.out.mono ?_
          rintro e v6 ⟨rfl, hb6⟩
          have S6 := Lib.hid (S5.out.stay hb6)
          have C3 := TY.out v6 S6.out.below BL7 cL7 (lis_ls (S6.out.lis 4 rfl)) (by unfold maxLen; omega) k o3 G3.out
          rw [HZ.out.2.2, HB.out.2.2] at C3
          have D3 := Lib.hid C3
          clear C3 D2 hb6
          go_wp2_with fail
          refine D3.out.mono ?_
          rintro e v7 ⟨rfl, hb7⟩
          have S7 := Lib.hid (S6.out.stay hb7)
          clear hb7 D3
          cases b1 with
          | false =>
            obtain rfl : o1 = none := by have := HB.out.1; cases o1 with
              | none => rfl
              | some r => cases this
            obtain rfl : b2 = false := by
              cases h : o2 with
              | none => have := HB.out.2.1; rw [h] at this; exact this.symm
              | some r => obtain ⟨t, ht, -⟩ := F2.out r h; cases ht
            obtain rfl : b3 = false := by
              cases h : o3 with
              | none => have := HB.out.2.2; rw [h] at this; exact this.symm
              | some r => obtain ⟨t, ht, -⟩ := F3.out r h; cases ht
            go_wp2_with fail
            go_roundw
            case rel => exact ⟨k + 1, by omega, by go_num, S7.out⟩
            case measure => simp [intOf]; omega
          | true =>
            obtain ⟨a, rfl⟩ : ∃ a, o1 = some a := Option.isSome_iff_exists.1 HB.out.1
            obtain ⟨f1, f2, f3⟩ := F1.out a rfl
            obtain ⟨-, g1', g2', g3', g4'⟩ := HT.out.2 k hlt
            have ha : (a : Int) = z1 := HZ.out.1
            have e2 : b2 = true → z1 ≤ z2 := fun h => by
              obtain ⟨x, hx⟩ := Option.isSome_iff_exists.1 (HB.out.2.1.trans h)
              obtain ⟨t, ht, hl⟩ := F2.out x hx
              injection ht with ht
              have := HZ.out.2.1
              rw [hx] at this
              have h2 : (x : Int) = z2 := this
              omega
            have e3 : b3 = true → z1 ≤ z3 := fun h => by
              obtain ⟨x, hx⟩ := Option.isSome_iff_exists.1 (HB.out.2.2.trans h)
              obtain ⟨t, ht, hl⟩ := F3.out x hx
              injection ht with ht
              have := HZ.out.2.2
              rw [hx] at this
              have h2 : (x : Int) = z3 := this
              omega
            obtain ⟨ib, off, rfl, -, c1, -, c3⟩ := (RD.out v7 S7.out.below).at_ (Below.refl _ _) hlt
            have WW := Lib.hid (WN.out v7 S7.out.below HT.out HS.out k (by omega) (by omega) z1 (by omega) (by omega) z1 (by
              rw [Int.toNat_natCast, show z1.toNat = a by omega, f3]; exact ha.symm))
            obtain ⟨cc, hcc⟩ : ∃ z, (T k).cost = z := ⟨_, rfl⟩
            obtain ⟨dd, hdd⟩ : ∃ z, (T k).dead = z := ⟨_, rfl⟩
            rw [hcc] at c1
            rw [hdd] at c3
            have t1 : decide (z1 < cc) = false := decide_eq_false (by omega)
            have t2 : decide (dd < z1) = false := decide_eq_false (by omega)
            have BB := Lib.hid (And.intro e2 e3)
            clear ha e2 e3 f1 f2 f3 g1' g2' g3' g4' hcc hdd
            go_wp2_with fail
            refine WW.out.mono ?_
            rintro e v8 ⟨rfl, hb8⟩
            have S8 := Lib.hid (S7.out.stay hb8)
            clear hb8 WW
            cases b2 with
            | false =>
              cases b3 with
              | false =>
                go_wp2_with fail
                go_roundw
                case rel => exact ⟨k + 1, by omega, by go_num, S8.out⟩
                case measure => simp [intOf]; omega
              | true =>
                have t4 : decide (z3 < z1) = false := decide_eq_false (by have := BB.out.2 rfl; omega)
                go_wp2_with fail
                go_roundw
                case rel => exact ⟨k + 1, by omega, by go_num, S8.out⟩
                case measure => simp [intOf]; omega
            | true =>
              have t3 : decide (z2 < z1) = false := decide_eq_false (by have := BB.out.1 rfl; omega)
              cases b3 with
              | false =>
                go_wp2_with fail
                go_roundw
                case rel => exact ⟨k + 1, by omega, by go_num, S8.out⟩
                case measure => simp [intOf]; omega
              | true =>
                have t4 : decide (z3 < z1) = false := decide_eq_false (by have := BB.out.2 rfl; omega)
                go_wp2_with fail
                go_roundw
                case rel => exact ⟨k + 1, by omega, by go_num, S8.out⟩
                case measure => simp [intOf]; omega
        · obtain rfl : k = n := by omega
          go_wp2_with fail
          go_ret
          exact ⟨rfl, sr.below⟩

set_option maxRecDepth 100000 in
theorem lifted (os : Os) (started : os.Started) (H : Type) (enc : TypeId × Value → H) :
    ReturnsInHanded {} Try.checked os 3 .any (Rows.rtaMoreSpec.pre6 enc Try.prog Try.f3 Rows.rtaMoreRow.domain false) (Rows.rtaMoreSpec.post enc Try.prog Try.f3 false true false false) := by
  refine law_lifted (C := Try.checked) (tb := 4) own started (by kernel_rfl) Try.func3
    (ChangeSpec.witness6 (enc := enc) (C := Try.checked) false ⟨#[], #[.slice none 0 0, .slice none 0 0, .agg #[.int .i64 0, .int .u64 0, .int .u64 0, .int .u64 0, .int .i64 0, .int .u64 0, .int .u64 0]], []⟩ 8 (by kernel_rfl) (by kernel_rfl) (by kernel_rfl) (by kernel_rfl)) laid (by kernel_rfl) (by kernel_rfl) Try.underlying4 rfl ?_
  intro W base args ds ps hval0 hA0 hlt
  have hval : ∀ (j : Nat) t v, Try.f3.params[j]? = some t → args[j]? = some v → Value.okWide Try.prog W .any base t v := hval0
  have hA : DataW.TrodAll enc Try.prog W 0 (fun _ => true) true Try.f3.params.toList args.toList ds ps := hA0
  clear hA0 hval0
  rw [Try.params3] at hA hval
  obtain ⟨v0, vs0, d0, ds0, p0, q0, hargs, rfl, rfl, h0, r0⟩ := trodAll_cons hA
  obtain ⟨v1, vs1, d1, ds1, p1, q1, rfl, rfl, rfl, h1, r1⟩ := trodAll_cons r0
  obtain ⟨v2, vs2, d2, ds2, p2, q2, rfl, rfl, rfl, h2, r2⟩ := trodAll_cons r1
  obtain ⟨rfl, rfl, rfl⟩ := trodAll_nil r2
  obtain rfl : args = #[v0, v1, v2] := by cases args; simp_all
  obtain ⟨A0, n0, cap0, V0, rfl, le0, mx0, rd0, lf0⟩ := open_slice_spots (m := 4) (d := 20) (l := [(0, 3), (1, 24), (2, 24), (3, 24)]) Try.underlying22 (by kernel_rfl) (by decide) (by kernel_rfl) (hval 0 22 v0 rfl rfl) h0
  have f0_0 := fun j hj => leaf_int Try.underlying3 (lf0 0 3 (by simp) j hj)
  have f0_1 := fun j hj => leaf_int Try.underlying24 (lf0 1 24 (by simp) j hj)
  have f0_2 := fun j hj => leaf_int Try.underlying24 (lf0 2 24 (by simp) j hj)
  have f0_3 := fun j hj => leaf_int Try.underlying24 (lf0 3 24 (by simp) j hj)
  obtain ⟨A1, n1, cap1, V1, rfl, le1, mx1, rd1, lf1⟩ := open_slice_spots (m := 2) (d := 20) (l := [(0, 3), (1, 24)]) Try.underlying23 (by kernel_rfl) (by decide) (by kernel_rfl) (hval 1 23 v1 rfl rfl) h1
  have f1_0 := fun j hj => leaf_int Try.underlying3 (lf1 0 3 (by simp) j hj)
  have f1_1 := fun j hj => leaf_int Try.underlying24 (lf1 1 24 (by simp) j hj)
  obtain ⟨cs2, rfl, sz2, ok2⟩ := open_flat (ts := [3, 24, 24, 24, 3, 24, 24]) (Or.inl ⟨_, Try.underlying30⟩) (by kernel_rfl) (by kernel_rfl) (hval 2 30 v2 rfl rfl)
  obtain ⟨c2_0, c2_1, c2_2, c2_3, c2_4, c2_5, c2_6, rfl⟩ := size7 sz2
  obtain ⟨a2_0, rfl, w2_0⟩ := cell_int Try.underlying3 (ok2 0 _ _ rfl rfl)
  obtain ⟨a2_1, rfl, w2_1⟩ := cell_int Try.underlying24 (ok2 1 _ _ rfl rfl)
  obtain ⟨a2_2, rfl, w2_2⟩ := cell_int Try.underlying24 (ok2 2 _ _ rfl rfl)
  obtain ⟨a2_3, rfl, w2_3⟩ := cell_int Try.underlying24 (ok2 3 _ _ rfl rfl)
  obtain ⟨a2_4, rfl, w2_4⟩ := cell_int Try.underlying3 (ok2 4 _ _ rfl rfl)
  obtain ⟨a2_5, rfl, w2_5⟩ := cell_int Try.underlying24 (ok2 5 _ _ rfl rfl)
  obtain ⟨a2_6, rfl, w2_6⟩ := cell_int Try.underlying24 (ok2 6 _ _ rfl rfl)
  refine ⟨⟨rfl, rfl, rfl⟩, ?_⟩
  obtain ⟨T, hT⟩ := Go.Deep.choose_lt (n := n0) (p := fun j (d : Wk) => V0 j 0 = .int .i64 d.prio ∧ V0 j 1 = .int .u64 d.cost ∧ V0 j 2 = .int .u64 d.per ∧ V0 j 3 = .int .u64 d.dead) (fun j hj => by
    obtain ⟨x0, h0, -⟩ := f0_0 j hj
    obtain ⟨x1, h1, -⟩ := f0_1 j hj
    obtain ⟨x2, h2, -⟩ := f0_2 j hj
    obtain ⟨x3, h3, -⟩ := f0_3 j hj
    exact ⟨⟨x0, x1, x2, x3⟩, h0, h1, h2, h3⟩)
  obtain ⟨S, hS⟩ := Go.Deep.choose_lt (n := n1) (p := fun j (d : Ld) => V1 j 0 = .int .i64 d.b ∧ V1 j 1 = .int .u64 d.per ∧ d.typed) (fun j hj => by
    obtain ⟨x0, h0, w0⟩ := f1_0 j hj
    obtain ⟨x1, h1, w1⟩ := f1_1 j hj
    exact ⟨⟨x0, x1⟩, h0, h1, bounds_i64 w0, bounds_u64 w1⟩)
  exact walk A0 A1 n0 cap0 n1 cap1 T S a2_0 a2_1 a2_2 a2_3 a2_4 a2_5 a2_6 W (by omega) (by omega) (ts_of rd0 hT) (ls_of rd1 fun j hj => ⟨(hS j hj).1, (hS j hj).2.1⟩) (fun j hj => (hS j hj).2.2) (bounds_u64 w2_5) (bounds_i64 w2_4)

theorem over : Rows.rtaMoreRow.holds Try.pinned (OpenSpec.ofChange Rows.rtaMoreSpec) :=
  OpenClaim.holds_of_wide 3 Try.f3 rfl rfl rfl rfl rfl rfl rfl ⟨rfl, rfl, rfl, rfl, rfl⟩ rfl rfl rfl rfl rfl (by kernel_rfl) Try.func3 (by kernel_rfl)
    (of_decide_eq_true (by kernel_rfl)) (by unfold Func.isWrapper; first | (rw [if_pos (by decide +kernel)]; kernel_rfl) | (rw [if_neg (by decide +kernel)]; exact ⟨rfl, rfl⟩))
    (fun os started H enc _ => lifted os started H enc)
theorem proved : Rows.RtaMoreSaid := over
#print axioms proved
end Go.Proofs.Ythbghenikooagaa.rtaMore
