/-
  For all tasks and loads and every task more RtaRoom answers true, and changes nothing: whoever is let in leaves all done in time, whoever isn't would have left somebody not so, and more cost is let in only where less is. No condition.
-/
import Derived.Test.YthbghenikooagaaRows
import Derived.Test.YthbghenikooagaaFr
import Derived.Test.YthbghenikooagaaRtaK
import Derived.Test.YthbghenikooagaaOpen
namespace Go.Proofs.Ythbghenikooagaa.rtaRoom
open Go.ChangeShapes Go.WideShapes Go.ChangeAt Go.RowKit
set_option linter.unusedVariables false
theorem own : ownKnob Try.prog.godebug = none := by kernel_rfl
theorem laid : laidOutB Try.prog = true := by kernel_rfl
set_option maxRecDepth 100000
set_option maxHeartbeats 4000000
theorem walk (A B : Option Addr) (n cap m capB : Nat) (T : Nat → Wk) (S : Nat → Ld) (p c r d : Int) (w : World) (hn : n ≤ maxLen) (hm : m ≤ maxLen) (rd : Ts w A n T) (rdS : Ls w B m S) (ht : LTyped m S) (hA : A = none → n = 0) (hc : 0 ≤ c ∧ c ≤ 18446744073709551615) :
    Calls Try.prog 7 #[.slice A n cap, .slice B m capB, .agg (Wk.cells ⟨p, c, r, d⟩)] w fun e w' => e = .returned (.bool true) ∧ Below w.heap.size w w' := by
  obtain ⟨iK, hiK, hzK, hsK, hbK⟩ := rinfo_parts Try.infoWk
  have s0 : St w None (w.alloc (.cells (Wk.cells ⟨p, c, r, d⟩) 26)) [BlkR w.heap.size 26 (Wk.cells ⟨p, c, r, d⟩)] := (St.begin w).box 26 (Wk.cells ⟨p, c, r, d⟩)
  have S0' := Lib.hid s0
  have RD := Lib.hid (fun W (hW : Below w.heap.size w W) => rd.below hW)
  have SM := Lib.hid (fun W (hW : Below w.heap.size w W) => small_c (cap := cap) (capB := capB) (B := B) (rd.below hW) hn hm)
  have AL := Lib.hid (fun W (hW : Below w.heap.size w W) => all_c (cap := cap) (capB := capB) (rd.below hW) (rdS.below hW) ht hn hm _ rfl)
  have AX := Lib.hid (fun W (hW : Below w.heap.size w W) C cp (h : Ts W C (n + 1) (snoc T n ⟨p, c, r, d⟩)) (hn1 : n + 1 ≤ maxLen) => all_c (cap := cp) (capB := capB) h (rdS.below hW) ht hn1 hm _ rfl)
  have AD := Lib.hid (fun W (hW : Below w.heap.size w W) (h40 : n ≤ 1000) (x : Wk) => admit_c (cap := cap) (capB := capB) (rd.below hW) (rdS.below hW) ht h40 hA hm x _ rfl)
  have HSN := Lib.hid (snoc_wkc T n ⟨p, c, r, d⟩)
  clear rd rdS ht hA hn hm s0
  go_enter Try.func7, Try.ntmps7
  go_wp2_with fail
  refine (awake_o S0'.out).mono ?_
  rintro e w1 ⟨rfl, s1⟩
  clear S0'
  go_wp2_with fail
  refine (SM.out w1 s1.below).mono ?_
  rintro e w2 ⟨b, rfl, hb40, hb2⟩
  have S2 := Lib.hid (s1.stay hb2)
  clear s1 hb2 SM
  cases b with
  | false =>
    clear hb40
    go_wp2_with fail
    go_ret
    exact ⟨rfl, S2.out.below⟩
  | true =>
  obtain ⟨n40, m40⟩ := hb40 rfl
  obtain ⟨k0, k1, k2, k3⟩ := (S2.out.blk 0 rfl).four
  have SO := Lib.hid (small_c (cap := 1) (B := none) (m := 0) (capB := 0) (blk_ts1 (T := T1 ⟨p, c, r, d⟩) (Blk.new w2 26 (Wk.cells ⟨p, c, r, d⟩)) rfl) (by unfold maxLen; omega) (by unfold maxLen; omega))
  have SB := Lib.hid (S2.out.alloc (.cells (Wk.cells ⟨p, c, r, d⟩) 26))
  clear hb40
  go_wp2_with fail
  refine SO.out.mono ?_
  rintro e w3 ⟨b, rfl, -, hb3⟩
  have S3 := Lib.hid (SB.out.stay hb3)
  clear hb3 SO SB k0 k1 k2 k3
  cases b with
  | false =>
    go_wp2_with fail
    go_ret
    exact ⟨rfl, S3.out.below⟩
  | true =>
  obtain ⟨k0, k1, k2, k3⟩ := (S3.out.blk 0 rfl).four
  have A1 := AD.out w3 S3.out.below (by omega) ⟨p, c, r, d⟩
  obtain ⟨ok, hok⟩ : ∃ b, decide (allO (n + 1) (snoc T n ⟨p, c, r, d⟩) m S) = b := ⟨_, rfl⟩
  rw [hok] at A1
  have A2 := Lib.hid A1
  have HOK := Lib.hid hok
  clear A1 hok
  go_wp2_with fail
  refine A2.out.mono ?_
  rintro e w4 ⟨rfl, hb4⟩
  have s4 := S3.out.stay hb4
  have q0 := s4.drew
  have S4 := Lib.hid s4
  have hsz : w4.drew.heap.size = w4.heap.size := rfl
  have zE := q0.lis_new 26 4 0 #[] rfl (by unfold maxLen; omega)
  have zX := q0.box 26 (Wk.cells ⟨p, c, r, d⟩)
  have zEX := zE.box 26 (Wk.cells ⟨p, c, r, d⟩)
  have zXE := zX.lis_new 26 4 0 #[] rfl (by unfold maxLen; omega)
  rw [show (w4.drew.alloc (.cells #[] 26)).heap.size = w4.heap.size + 1 by simp] at zEX
  rw [show (w4.drew.alloc (.cells (Wk.cells ⟨p, c, r, d⟩) 26)).heap.size = w4.heap.size + 1 by simp] at zXE
  obtain ⟨k0, k1, k2, k3⟩ := (s4.blk 0 rfl).four
  obtain ⟨e0, e1, e2, e3⟩ := ((s4.lis_new 26 4 0 #[] rfl (by unfold maxLen; omega)).blk 0 rfl).four
  have ZE := Lib.hid zE
  have ZEX := Lib.hid zEX
  have ZXE := Lib.hid zXE
  have RE := Lib.hid (ts_rds (RD.out _ zE.below))
  have REX := Lib.hid (ts_rds (RD.out _ zEX.below))
  have RXE := Lib.hid (ts_rds (RD.out _ zXE.below))
  clear A2 hb4 s4 q0 zE zX zEX zXE hsz
  go_wp2_with fail
  go_region_law (first
    | (refine step_lis (by rfl) _ _ _ (by rfl) 26 iK (.agg #[.int .i64 0, .int .u64 0, .int .u64 0, .int .u64 0]) 4 32 Try.underlying22 hiK hzK hsK hbK (by rfl) (by omega) (.slice (some ⟨w4.heap.size, 0, none⟩) 0 0) 0 [] (by rfl) (ZE.out.lis 1 rfl) A n cap (wkc T n) (by rfl) RE.out (wkc_one T n) (by unfold maxLen; omega) (by omega) ?_; intro B6 c6 w6 hl hg hat; have t6 := ZE.out.lis_put 1 rfl hl hg hat; simp only [Nat.zero_add, List.nil_append] at t6 ⊢; obtain ⟨q50, q51, q52, q53⟩ := (show w6.cell? ⟨w.heap.size, 0, none⟩ = some (.int .i64 p) ∧ w6.cell? ⟨w.heap.size, 1, none⟩ = some (.int .u64 c) ∧ w6.cell? ⟨w.heap.size, 2, none⟩ = some (.int .u64 r) ∧ w6.cell? ⟨w.heap.size, 3, none⟩ = some (.int .u64 d) from (t6.blk 0 rfl).four); have PE := Lib.hid t6; clear hl hg hat t6)
    | (refine step_lis (by rfl) _ _ _ (by rfl) 26 iK (.agg #[.int .i64 0, .int .u64 0, .int .u64 0, .int .u64 0]) 4 32 Try.underlying22 hiK hzK hsK hbK (by rfl) (by omega) (.slice (some ⟨w4.heap.size, 0, none⟩) 0 0) 0 [] (by rfl) (ZEX.out.lis 1 rfl) A n cap (wkc T n) (by rfl) REX.out (wkc_one T n) (by unfold maxLen; omega) (by omega) ?_; intro B6 c6 w6 hl hg hat; have t6 := ZEX.out.lis_put 1 rfl hl hg hat; simp only [Nat.zero_add, List.nil_append] at t6 ⊢; have PEX := Lib.hid t6; clear hl hg hat t6)
    | (refine step_lis (by rfl) _ _ _ (by rfl) 26 iK (.agg #[.int .i64 0, .int .u64 0, .int .u64 0, .int .u64 0]) 4 32 Try.underlying22 hiK hzK hsK hbK (by rfl) (by omega) (.slice (some ⟨w4.heap.size + 1, 0, none⟩) 0 0) 0 [] (by rfl) (ZXE.out.lis 2 rfl) A n cap (wkc T n) (by rfl) RXE.out (wkc_one T n) (by unfold maxLen; omega) (by omega) ?_; intro B6 c6 w6 hl hg hat; have t6 := ZXE.out.lis_put 2 rfl hl hg hat; simp only [Nat.zero_add, List.nil_append] at t6 ⊢; have PXE := Lib.hid t6; clear hl hg hat t6)
    | (refine step_lis (by rfl) _ _ _ (by rfl) 26 iK (.agg #[.int .i64 0, .int .u64 0, .int .u64 0, .int .u64 0]) 4 32 Try.underlying22 hiK hzK hsK hbK (by rfl) (by omega) (.slice B6 n c6) n (wkc T n) (by rfl) ((PE.out.alloc _).lis 1 rfl) (some ⟨w6.heap.size, 0, none⟩) 1 1 (wkl ⟨p, c, r, d⟩) (by rfl) (rds_box4 w6 _ _ _ _ _) (wkl_one _) (by unfold maxLen; omega) (by omega) ?_; intro B7 c7 w7 hl hg hat; have t7 := (PE.out.alloc (.cells (Wk.cells ⟨p, c, r, d⟩) 26)).lis_put 1 rfl hl hg hat; have F7 := Lib.hid (show St w None w7 [BlkR w.heap.size 26 (Wk.cells ⟨p, c, r, d⟩), WkR B7 c7 (n + 1) (snoc T n ⟨p, c, r, d⟩)] by unfold WkR; rw [HSN.out]; exact t7); clear hl hg hat t7)
    | (refine step_lis (by rfl) _ _ _ (by rfl) 26 iK (.agg #[.int .i64 0, .int .u64 0, .int .u64 0, .int .u64 0]) 4 32 Try.underlying22 hiK hzK hsK hbK (by rfl) (by omega) (.slice B6 n c6) n (wkc T n) (by rfl) (PEX.out.lis 1 rfl) (some ⟨w4.heap.size + 1, 0, none⟩) 1 1 (wkl ⟨p, c, r, d⟩) (by rfl) (rds_blk4 (PEX.out.blk 2 rfl)) (wkl_one _) (by unfold maxLen; omega) (by omega) ?_; intro B7 c7 w7 hl hg hat; have t7 := (PEX.out.lis_put 1 rfl hl hg hat).take 2; have F7 := Lib.hid (show St w None w7 [BlkR w.heap.size 26 (Wk.cells ⟨p, c, r, d⟩), WkR B7 c7 (n + 1) (snoc T n ⟨p, c, r, d⟩)] by unfold WkR; rw [HSN.out]; exact t7); clear hl hg hat t7)
    | (refine step_lis (by rfl) _ _ _ (by rfl) 26 iK (.agg #[.int .i64 0, .int .u64 0, .int .u64 0, .int .u64 0]) 4 32 Try.underlying22 hiK hzK hsK hbK (by rfl) (by omega) (.slice B6 n c6) n (wkc T n) (by rfl) (PXE.out.lis 2 rfl) (some ⟨w4.heap.size, 0, none⟩) 1 1 (wkl ⟨p, c, r, d⟩) (by rfl) (rds_blk4 (PXE.out.blk 1 rfl)) (wkl_one _) (by unfold maxLen; omega) (by omega) ?_; intro B7 c7 w7 hl hg hat; have t7 := (PXE.out.lis_put 2 rfl hl hg hat).drop 1 (by simp); have F7 := Lib.hid (show St w None w7 [BlkR w.heap.size 26 (Wk.cells ⟨p, c, r, d⟩), WkR B7 c7 (n + 1) (snoc T n ⟨p, c, r, d⟩)] by unfold WkR; rw [HSN.out]; exact t7); clear hl hg hat t7))
  all_goals
    have AA := AX.out w7 F7.out.below B7 c7 (lis_ts (F7.out.lis 1 rfl)) (by unfold maxLen; omega)
    rw [HOK.out] at AA
    have A3 := Lib.hid AA
    clear AA
    go_wp2_with fail
    refine A3.out.mono ?_
    rintro e w8 ⟨rfl, hb8⟩
    have S8 := Lib.hid ((F7.out.take 1).stay hb8)
    clear hb8 A3
    cases ok with
    | false =>
      go_wp2_with fail
      go_ret
      exact ⟨rfl, S8.out.below⟩
    | true =>
      have hall := of_decide_eq_true HOK.out
      have AT := AL.out w8 S8.out.below
      rw [decide_eq_true (all_less hall)] at AT
      have A4 := Lib.hid AT
      clear AT
      go_wp2_with fail
      refine A4.out.mono ?_
      rintro e w9 ⟨rfl, hb9⟩
      have S9 := Lib.hid (S8.out.stay hb9)
      have HAL := Lib.hid hall
      clear hb9 A4 hall
      obtain ⟨k0, k1, k2, k3⟩ := (S9.out.blk 0 rfl).four
      by_cases h2 : c < 2
      · have z1 : decide (c < 2) = true := decide_eq_true h2
        go_wp2_with fail
        go_ret
        exact ⟨rfl, S9.out.below⟩
      · have z1 : decide (c < 2) = false := decide_eq_false h2
        have sA : St w None (w9.alloc (.cells (Wk.cells ⟨p, c, r, d⟩) 26)) [BlkR w.heap.size 26 (Wk.cells ⟨p, c, r, d⟩), BlkR w9.heap.size 26 (Wk.cells ⟨p, c, r, d⟩)] := S9.out.box 26 (Wk.cells ⟨p, c, r, d⟩)
        obtain ⟨m0, m1, m2, m3⟩ := (sA.blk 1 rfl).four
        obtain ⟨j0, j1, j2, j3⟩ := (sA.blk 0 rfl).four
        have fA := (sA.blk 1 rfl).frozen 1
        have sB : St w None (w9.alloc (.cells (Wk.cells ⟨p, c - 1, r, d⟩) 26)) [BlkR w.heap.size 26 (Wk.cells ⟨p, c, r, d⟩), BlkR w9.heap.size 26 (Wk.cells ⟨p, c - 1, r, d⟩)] := S9.out.box 26 (Wk.cells ⟨p, c - 1, r, d⟩)
        obtain ⟨l0, l1, l2, l3⟩ := (sB.blk 1 rfl).four
        have AN := AD.out _ sB.below (by omega) ⟨p, c - 1, r, d⟩
        rw [decide_eq_true (all_cost (y := ⟨p, c - 1, r, d⟩) HAL.out (by dsimp only; omega) (by dsimp only; omega) rfl rfl rfl)] at AN
        have A5 := Lib.hid AN
        have S5 := Lib.hid sB
        clear AN sA sB
        go_wp2_with fail
        refine A5.out.mono ?_
        rintro e w10 ⟨rfl, hb10⟩
        go_wp2_with fail
        go_ret
        exact ⟨rfl, (S5.out.stay hb10).below⟩

set_option maxRecDepth 100000 in
theorem lifted (os : Os) (started : os.Started) (H : Type) (enc : TypeId × Value → H) :
    ReturnsInHanded {} Try.checked os 7 .any (Rows.rtaRoomSpec.pre6 enc Try.prog Try.f7 Rows.rtaRoomRow.domain false) (Rows.rtaRoomSpec.post enc Try.prog Try.f7 false true false false) := by
  refine law_lifted (C := Try.checked) (tb := 4) own started (by kernel_rfl) Try.func7
    (ChangeSpec.witness6 (enc := enc) (C := Try.checked) false ⟨#[], #[.slice none 0 0, .slice none 0 0, .agg #[.int .i64 0, .int .u64 0, .int .u64 0, .int .u64 0]], []⟩ 8 (by kernel_rfl) (by kernel_rfl) (by kernel_rfl) (by kernel_rfl)) laid (by kernel_rfl) (by kernel_rfl) Try.underlying4 rfl ?_
  intro W base args ds ps hval0 hA0 hlt
  have hval : ∀ (j : Nat) t v, Try.f7.params[j]? = some t → args[j]? = some v → Value.okWide Try.prog W .any base t v := hval0
  have hA : DataW.TrodAll enc Try.prog W 0 (fun _ => true) true Try.f7.params.toList args.toList ds ps := hA0
  clear hA0 hval0
  rw [Try.params7] at hA hval
  obtain ⟨v0, vs0, d0, ds0, p0, q0, hargs, rfl, rfl, h0, r0⟩ := trodAll_cons hA
  obtain ⟨v1, vs1, d1, ds1, p1, q1, rfl, rfl, rfl, h1, r1⟩ := trodAll_cons r0
  obtain ⟨v2, vs2, d2, ds2, p2, q2, rfl, rfl, rfl, h2, r2⟩ := trodAll_cons r1
  obtain ⟨rfl, rfl, rfl⟩ := trodAll_nil r2
  obtain rfl : args = #[v0, v1, v2] := by cases args; simp_all
  obtain ⟨A0, n0, cap0, V0, rfl, le0, mx0, rd0, lf0⟩ := open_slice_spots (m := 4) (d := 20) (l := [(0, 3), (1, 24), (2, 24), (3, 24)]) Try.underlying22 (by kernel_rfl) (by decide) (by kernel_rfl) (hval 0 22 v0 rfl rfl) h0
  have f0_0 := fun j hj => leaf_int Try.underlying3 (lf0 0 3 (by simp) j hj)
  have f0_1 := fun j hj => leaf_int Try.underlying24 (lf0 1 24 (by simp) j hj)
  have f0_2 := fun j hj => leaf_int Try.underlying24 (lf0 2 24 (by simp) j hj)
  have f0_3 := fun j hj => leaf_int Try.underlying24 (lf0 3 24 (by simp) j hj)
  obtain ⟨A1, n1, cap1, V1, rfl, le1, mx1, rd1, lf1⟩ := open_slice_spots (m := 2) (d := 20) (l := [(0, 3), (1, 24)]) Try.underlying23 (by kernel_rfl) (by decide) (by kernel_rfl) (hval 1 23 v1 rfl rfl) h1
  have f1_0 := fun j hj => leaf_int Try.underlying3 (lf1 0 3 (by simp) j hj)
  have f1_1 := fun j hj => leaf_int Try.underlying24 (lf1 1 24 (by simp) j hj)
  obtain ⟨cs2, rfl, sz2, ok2⟩ := open_flat (ts := [3, 24, 24, 24]) (Or.inl ⟨_, Try.underlying26⟩) (by kernel_rfl) (by kernel_rfl) (hval 2 26 v2 rfl rfl)
  obtain ⟨c2_0, c2_1, c2_2, c2_3, rfl⟩ := size4 sz2
  obtain ⟨a2_0, rfl, w2_0⟩ := cell_int Try.underlying3 (ok2 0 _ _ rfl rfl)
  obtain ⟨a2_1, rfl, w2_1⟩ := cell_int Try.underlying24 (ok2 1 _ _ rfl rfl)
  obtain ⟨a2_2, rfl, w2_2⟩ := cell_int Try.underlying24 (ok2 2 _ _ rfl rfl)
  obtain ⟨a2_3, rfl, w2_3⟩ := cell_int Try.underlying24 (ok2 3 _ _ rfl rfl)
  refine ⟨⟨rfl, rfl, rfl⟩, ?_⟩
  obtain ⟨T, hT⟩ := Go.Deep.choose_lt (n := n0) (p := fun j (d : Wk) => V0 j 0 = .int .i64 d.prio ∧ V0 j 1 = .int .u64 d.cost ∧ V0 j 2 = .int .u64 d.per ∧ V0 j 3 = .int .u64 d.dead) (fun j hj => by
    obtain ⟨x0, h0, -⟩ := f0_0 j hj
    obtain ⟨x1, h1, -⟩ := f0_1 j hj
    obtain ⟨x2, h2, -⟩ := f0_2 j hj
    obtain ⟨x3, h3, -⟩ := f0_3 j hj
    exact ⟨⟨x0, x1, x2, x3⟩, h0, h1, h2, h3⟩)
  obtain ⟨S, hS⟩ := Go.Deep.choose_lt (n := n1) (p := fun j (d : Ld) => V1 j 0 = .int .i64 d.b ∧ V1 j 1 = .int .u64 d.per ∧ d.typed) (fun j hj => by
    obtain ⟨x0, h0, w0⟩ := f1_0 j hj
    obtain ⟨x1, h1, w1⟩ := f1_1 j hj
    exact ⟨⟨x0, x1⟩, h0, h1, bounds_i64 w0, bounds_u64 w1⟩)
  exact walk A0 A1 n0 cap0 n1 cap1 T S a2_0 a2_1 a2_2 a2_3 W (by omega) (by omega) (ts_of rd0 hT) (ls_of rd1 fun j hj => ⟨(hS j hj).1, (hS j hj).2.1⟩) (fun j hj => (hS j hj).2.2) (fun h => by
    rcases Nat.eq_zero_or_pos n0 with h0 | h0
    · exact h0
    · obtain ⟨b, off, e, -⟩ := rd0 h0
      rw [h] at e; cases e) (bounds_u64 w2_1)

theorem over : Rows.rtaRoomRow.holds Try.pinned (OpenSpec.ofChange Rows.rtaRoomSpec) :=
  OpenClaim.holds_of_wide 7 Try.f7 rfl rfl rfl rfl rfl rfl rfl ⟨rfl, rfl, rfl, rfl, rfl⟩ rfl rfl rfl rfl rfl (by kernel_rfl) Try.func7 (by kernel_rfl)
    (of_decide_eq_true (by kernel_rfl)) (by unfold Func.isWrapper; first | (rw [if_pos (by decide +kernel)]; kernel_rfl) | (rw [if_neg (by decide +kernel)]; exact ⟨rfl, rfl⟩))
    (fun os started H enc _ => lifted os started H enc)
theorem proved : Rows.RtaRoomSaid := over
#print axioms proved
end Go.Proofs.Ythbghenikooagaa.rtaRoom
