/-
  For all tasks and loads, in whatever order they stand, RtaSwapped answers true, and changes nothing: each has the same answer time. No condition.
-/
import Derived.Test.YthbghenikooagaaRows
import Derived.Test.YthbghenikooagaaFr
import Derived.Test.YthbghenikooagaaRtaO
import Derived.Test.YthbghenikooagaaOpen
namespace Go.Proofs.Ythbghenikooagaa.rtaSwapped
open Go.ChangeShapes Go.WideShapes Go.ChangeAt Go.RowKit
set_option linter.unusedVariables false
theorem own : ownKnob Try.prog.godebug = none := by kernel_rfl
theorem laid : laidOutB Try.prog = true := by kernel_rfl
set_option maxRecDepth 100000
set_option maxHeartbeats 4000000
theorem walk (A B : Option Addr) (n cap m capB : Nat) (T : Nat → Wk) (S : Nat → Ld) (a : Int) (w : World) (ba : 0 ≤ a ∧ a ≤ 255) (hn : n ≤ maxLen) (hm : m ≤ maxLen) (rd : Ts w A n T) (rdS : Ls w B m S) (ht : LTyped m S) :
    Calls Try.prog 8 #[.slice A n cap, .slice B m capB, .int .u8 a] w fun e w' => e = .returned (.bool true) ∧ Below w.heap.size w w' := by
  obtain ⟨iW, hiW, hzW, hsW, hbW⟩ := rinfo_parts Try.infoWk
  obtain ⟨iL, hiL, hzL, hsL, hbL⟩ := rinfo_parts Try.infoLd
  have RD := Lib.hid (fun W (hW : Below w.heap.size w W) => rd.below hW)
  have RS := Lib.hid (fun W (hW : Below w.heap.size w W) => rdS.below hW)
  have SM := Lib.hid (fun W (hW : Below w.heap.size w W) => small_c (cap := cap) (capB := capB) (B := B) (rd.below hW) hn hm)
  have TI := Lib.hid (fun W (hW : Below w.heap.size w W) i o ho => time_c (cap := cap) (capB := capB) (rd.below hW) (rdS.below hW) ht hn hm i o ho)
  have AL := Lib.hid (fun W (hW : Below w.heap.size w W) b hb => all_c (cap := cap) (capB := capB) (rd.below hW) (rdS.below hW) ht hn hm b hb)
  have HT := Lib.hid (show LTyped m (revS S m) from fun j hj => ht (m - 1 - j) (by omega))
  unfold maxLen at hn hm
  clear rd rdS ht
  go_enter Try.func8, Try.ntmps8
  go_wp2_with fail
  refine (awake_any w).mono ?_
  rintro e w1 ⟨rfl, hb1⟩
  go_wp2_with fail
  refine (SM.out w1 hb1).mono ?_
  rintro e w2 ⟨b, rfl, hb40, hb2⟩
  have B2 := Lib.hid (below_then hb1 hb2)
  clear hb1 hb2 SM
  cases b with
  | false =>
    clear hb40
    go_wp2_with fail
    go_ret
    exact ⟨rfl, B2.out⟩
  | true =>
  obtain ⟨n40, m40⟩ := hb40 rfl
  clear hb40
  by_cases hn0 : n = 0
  · have z0 : ((n : Int) == 0) = true := beq_iff_eq.2 (by omega)
    have z0' : (n == 0) = true := beq_iff_eq.2 hn0
    clear hn0
    go_wp2_with fail
    go_ret
    exact ⟨rfl, B2.out⟩
  have z0 : ((n : Int) == 0) = false := beq_eq_false_iff_ne.2 (by omega)
  have z0' : (n == 0) = false := beq_eq_false_iff_ne.2 hn0
  obtain ⟨x, rfl⟩ : ∃ x : Nat, (x : Int) = a := ⟨a.toNat, by omega⟩
  have hwx : IntKind.i64.wrap (x : Int) = (x : Int) := IntWalk.i64_in _ ⟨by omega, by omega⟩
  have hrem : Int.tmod (x : Int) (n : Int) = ((x % n : Nat) : Int) := by
    rw [Int.tmod_eq_emod_of_nonneg (by omega)]; exact (Int.natCast_emod x n).symm
  have hkn := Nat.mod_lt x (show 0 < n by omega)
  obtain ⟨k, hk⟩ : ∃ k, x % n = k := ⟨_, rfl⟩
  rw [hk] at hrem hkn
  have s2 : St w None w2 [LisR 26 4 (.slice none 0 0) 0 []] := ((St.begin w).stay B2.out).lis_nil 26 4
  have S2 := Lib.hid s2
  clear hk s2 hn0 B2
  go_wp2_with fail
  go_loopw [9, 10] (fun x9 i wr => ∃ (j : Nat) (C : Option Addr) (c : Nat), j ≤ n ∧ i = .int .i64 j ∧ x9 = .slice C j c ∧ St w None wr [WkR C c j (rotT T n k)]) (fun _ i _ => n - (intOf i).toNat)
  case atStart => exact ⟨0, none, 0, by omega, rfl, rfl, S2.out⟩
  case round =>
    clear S2
    obtain ⟨j, C, c, hj, rfl, rfl, sr⟩ := hrel
    by_cases hlt : j < n
    · obtain ⟨X, hX⟩ : ∃ X : Int, (j : Int) + (k : Int) = X := ⟨_, rfl⟩
      have hq := Nat.mod_lt (j + k) (show 0 < n by omega)
      have hrem2 : Int.tmod X (n : Int) = (((j + k) % n : Nat) : Int) := by
        rw [Int.tmod_eq_emod_of_nonneg (by omega), ← hX]; exact (Int.natCast_emod (j + k) n).symm
      have hwX : IntKind.i64.wrap X = X := IntWalk.i64_in _ ⟨by omega, by omega⟩
      obtain ⟨q, hq'⟩ : ∃ q, (j + k) % n = q := ⟨_, rfl⟩
      rw [hq'] at hq hrem2
      obtain ⟨ib, off, rfl, c0, c1, c2, c3⟩ := (RD.out wr sr.below).at_ (Below.refl _ _) hq
      have HSN := Lib.hid (show wkc (rotT T n k) j ++ wkl (T q) = wkc (rotT T n k) (j + 1) by show _ = wkc (rotT T n k) j ++ wkl (T ((j + k) % n)); rw [hq'])
      generalize T q = y at *
      obtain ⟨p, cc, r, d⟩ := y
      have s3 : St w None (wr.alloc (.cells (Wk.cells ⟨p, cc, r, d⟩) 26)) [WkR C c j (rotT T n k), BlkR wr.heap.size 26 (Wk.cells ⟨p, cc, r, d⟩)] := St.box (L := [_]) sr _ _
      have hl3 := s3.lis 0 rfl
      have hr3 := rds_blk4 (s3.blk 1 rfl)
      have S3 := Lib.hid s3
      clear hq' s3 sr
      dsimp only at c0 c1 c2 c3
      go_wp2_with (at_builtin; refine wpList_lis rfl (.tmp 40) (.tmp 49) 22 rfl 26 iW (.agg #[.int .i64 0, .int .u64 0, .int .u64 0, .int .u64 0]) 4 32 Try.underlying22 hiW hzW hsW hbW rfl (by decide) _ _ _ rfl hl3 (some ⟨wr.heap.size, 0, none⟩) 1 1 (wkl ⟨p, cc, r, d⟩) rfl hr3 (wkl_one _) (by unfold maxLen; omega) (by omega) ?_; intro B4 cap4 w4 hl4 hg4 hat4; have s4 := (S3.out.lis_put 0 rfl hl4 hg4 hat4).take 1; rw [HSN.out] at s4; have S4 := Lib.hid s4; clear hl4 hg4 hat4 s4 hl3 hr3)
      go_wp2_with fail
      go_roundw
      case rel => exact ⟨j + 1, B4, cap4, by omega, by go_num, rfl, S4.out⟩
      case measure => simp [intOf]; omega
    · obtain rfl : j = n := by omega
      have s3 : St w None wr [WkR C c j (rotT T j k), LisR 28 2 (.slice none 0 0) 0 []] := St.lis_nil (L := [_]) sr 28 2
      have S3 := Lib.hid s3
      have hm1 : IntKind.i64.wrap ((m : Int) - 1) = (m : Int) - 1 := IntWalk.i64_in _ ⟨by omega, by omega⟩
      clear s3 sr hlt
      go_wp2_with fail
      go_loopw [11, 12] (fun x11 z wr => ∃ (i : Nat) (D : Option Addr) (e : Nat), i ≤ m ∧ z = .int .i64 ((m : Int) - 1 - i) ∧ x11 = .slice D i e ∧ St w None wr [WkR C c j (rotT T j k), LdR D e i (revS S m)]) (fun _ z _ => (intOf z + 1).toNat)
      case atStart => exact ⟨0, none, 0, by omega, by simp, rfl, S3.out⟩
      case round =>
        clear S3
        obtain ⟨i, D, e, hi, rfl, rfl, sl⟩ := hrel
        obtain ⟨Z, hZ⟩ : ∃ Z : Int, (m : Int) - 1 - (i : Int) = Z := ⟨_, rfl⟩
        rw [hZ]
        by_cases hli : i < m
        · have t1 : decide (0 ≤ Z) = true := decide_eq_true (by omega)
          obtain ⟨q, hq⟩ : ∃ q : Nat, (q : Int) = Z := ⟨m - 1 - i, by omega⟩
          subst hq
          have hqm : q < m := by omega
          obtain ⟨ib, off, rfl, c0, c1⟩ := (RS.out wr sl.below).at_ (Below.refl _ _) hqm
          have HSN := Lib.hid (show ldc (revS S m) i ++ ldw (S q) = ldc (revS S m) (i + 1) by show _ = ldc (revS S m) i ++ ldw (S (m - 1 - i)); rw [show m - 1 - i = q by omega])
          have HZ := Lib.hid hZ
          generalize S q = y at *
          obtain ⟨bb, r⟩ := y
          have s3 : St w None (wr.alloc (.cells (Ld.cells ⟨bb, r⟩) 28)) [WkR C c j (rotT T j k), LdR D e i (revS S m), BlkR wr.heap.size 28 (Ld.cells ⟨bb, r⟩)] := St.box (L := [_, _]) sl _ _
          have hl3 := s3.lis 1 rfl
          have hr3 := rds_blkL (s3.blk 2 rfl)
          have S3 := Lib.hid s3
          clear s3 sl hZ
          dsimp only at c0 c1
          go_wp2_with (at_builtin; refine wpList_lis rfl (.tmp 58) (.tmp 63) 23 rfl 28 iL (.agg #[.int .i64 0, .int .u64 0]) 2 16 Try.underlying23 hiL hzL hsL hbL rfl (by decide) _ _ _ rfl hl3 (some ⟨wr.heap.size, 0, none⟩) 1 1 (ldw ⟨bb, r⟩) rfl hr3 (ldw_one _) (by unfold maxLen; omega) (by omega) ?_; intro B4 cap4 w4 hl4 hg4 hat4; have s4 := (S3.out.lis_put 1 rfl hl4 hg4 hat4).take 2; rw [HSN.out] at s4; have S4 := Lib.hid s4; clear hl4 hg4 hat4 s4 hl3 hr3)
          go_wp2_with fail
          go_roundw
          case rel => exact ⟨i + 1, B4, cap4, by omega, (show Value.int .i64 ((q : Int) - 1) = .int .i64 ((m : Int) - 1 - ((i + 1 : Nat) : Int)) by rw [show (q : Int) - 1 = (m : Int) - 1 - ((i + 1 : Nat) : Int) by have := HZ.out; omega]), rfl, S4.out⟩
          case measure => simp [intOf]
        · obtain rfl : i = m := by omega
          have t1 : decide (0 ≤ Z) = false := decide_eq_false (by omega)
          have SL := Lib.hid sl
          clear sl hZ hli
          go_wp2_with fail
          go_loopw [13] (fun y wr => ∃ q : Nat, q ≤ j ∧ y = .int .i64 q ∧ St w None wr [WkR C c j (rotT T j k), LdR D e i (revS S i)]) (fun y _ => j - (intOf y).toNat)
          case atStart => exact ⟨0, by omega, rfl, SL.out⟩
          case round =>
            clear SL
            obtain ⟨q, hq, rfl, su⟩ := hrel
            by_cases hlq : q < j
            · obtain ⟨X, hX⟩ : ∃ X : Int, (q : Int) + (k : Int) = X := ⟨_, rfl⟩
              have hl := Nat.mod_lt (q + k) (show 0 < j by omega)
              have hrem2 : Int.tmod X (j : Int) = (((q + k) % j : Nat) : Int) := by
                rw [Int.tmod_eq_emod_of_nonneg (by omega), ← hX]; exact (Int.natCast_emod (q + k) j).symm
              have hwX : IntKind.i64.wrap X = X := IntWalk.i64_in _ ⟨by omega, by omega⟩
              have htr := time_rot (T := T) (S := S) (m := i) hkn hlq
              obtain ⟨u, hu⟩ : ∃ u, (q + k) % j = u := ⟨_, rfl⟩
              rw [hu] at hl hrem2 htr
              obtain ⟨o, ho⟩ : ∃ o, timeO j T i S (u : Int) = o := ⟨_, rfl⟩
              rw [ho] at htr
              have C1 := time_c (cap := c) (capB := e) (lis_ts (su.lis 0 rfl)) (lis_ls (su.lis 1 rfl)) HT.out (by unfold maxLen; omega) (by unfold maxLen; omega) (q : Int) o htr.symm
              have C2 := fun W hW => TI.out W hW (u : Int) o ho.symm
              obtain ⟨z1, hz1⟩ : ∃ z, oNat o = z := ⟨_, rfl⟩
              obtain ⟨b1, hb1⟩ : ∃ z, o.isSome = z := ⟨_, rfl⟩
              rw [hz1, hb1] at C1 C2
              have D1 := Lib.hid C1
              have D2 := Lib.hid C2
              have SU := Lib.hid su
              clear C1 C2 hz1 hb1 ho htr hu su
              go_wp2_with fail
              refine D1.out.mono ?_
              rintro e' w5 ⟨rfl, hb5⟩
              have S5 := Lib.hid (SU.out.stay hb5)
              clear hb5
              go_wp2_with fail
              refine (D2.out w5 S5.out.below).mono ?_
              rintro e' w6 ⟨rfl, hb6⟩
              have S6 := Lib.hid (S5.out.stay hb6)
              clear hb6 S5 SU D1 D2
              cases b1 with
              | false =>
                go_wp2_with fail
                go_roundw
                case rel => exact ⟨q + 1, by omega, by go_num, S6.out⟩
                case measure => simp [intOf]; omega
              | true =>
                go_wp2_with fail
                go_roundw
                case rel => exact ⟨q + 1, by omega, by go_num, S6.out⟩
                case measure => simp [intOf]; omega
            · obtain rfl : q = j := by omega
              obtain ⟨b1, hb1⟩ : ∃ b, decide (allO q T i S) = b := ⟨_, rfl⟩
              have C1 := Lib.hid (all_c (cap := c) (capB := e) (lis_ts (su.lis 0 rfl)) (lis_ls (su.lis 1 rfl)) HT.out (by unfold maxLen; omega) (by unfold maxLen; omega) b1 (by rw [← hb1]; exact decide_eq_decide.2 (all_rot hkn).symm))
              have C2 := Lib.hid (fun W hW => AL.out W hW b1 hb1.symm)
              have SU := Lib.hid su
              clear hb1 su
              go_wp2_with fail
              refine C1.out.mono ?_
              rintro e' w5 ⟨rfl, hb5⟩
              have S5 := Lib.hid (SU.out.stay hb5)
              clear hb5
              go_wp2_with fail
              refine (C2.out w5 S5.out.below).mono ?_
              rintro e' w6 ⟨rfl, hb6⟩
              have S6 := Lib.hid (S5.out.stay hb6)
              clear hb6
              cases b1 with
              | false =>
                go_wp2_with fail
                go_ret
                exact ⟨rfl, S6.out.below⟩
              | true =>
                go_wp2_with fail
                go_ret
                exact ⟨rfl, S6.out.below⟩

set_option maxRecDepth 100000 in
theorem lifted (os : Os) (started : os.Started) (H : Type) (enc : TypeId × Value → H) :
    ReturnsInHanded {} Try.checked os 8 .any (Rows.rtaSwappedSpec.pre6 enc Try.prog Try.f8 Rows.rtaSwappedRow.domain false) (Rows.rtaSwappedSpec.post enc Try.prog Try.f8 false true false false) := by
  refine law_lifted (C := Try.checked) (tb := 4) own started (by kernel_rfl) Try.func8
    (ChangeSpec.witness6 (enc := enc) (C := Try.checked) false ⟨#[], #[.slice none 0 0, .slice none 0 0, .int .u8 0], []⟩ 8 (by kernel_rfl) (by kernel_rfl) (by kernel_rfl) (by kernel_rfl)) laid (by kernel_rfl) (by kernel_rfl) Try.underlying4 rfl ?_
  intro W base args ds ps hval0 hA0 hlt
  have hval : ∀ (j : Nat) t v, Try.f8.params[j]? = some t → args[j]? = some v → Value.okWide Try.prog W .any base t v := hval0
  have hA : DataW.TrodAll enc Try.prog W 0 (fun _ => true) true Try.f8.params.toList args.toList ds ps := hA0
  clear hA0 hval0
  rw [Try.params8] at hA hval
  obtain ⟨v0, vs0, d0, ds0, p0, q0, hargs, rfl, rfl, h0, r0⟩ := trodAll_cons hA
  obtain ⟨v1, vs1, d1, ds1, p1, q1, rfl, rfl, rfl, h1, r1⟩ := trodAll_cons r0
  obtain ⟨v2, vs2, d2, ds2, p2, q2, rfl, rfl, rfl, h2, r2⟩ := trodAll_cons r1
  obtain ⟨rfl, rfl, rfl⟩ := trodAll_nil r2
  obtain rfl : args = #[v0, v1, v2] := by cases args; simp_all
  obtain ⟨A0, n0, cap0, V0, rfl, le0, mx0, rd0, lf0⟩ := open_slice_spots (m := 4) (d := 20) (l := [(0, 3), (1, 24), (2, 24), (3, 24)]) Try.underlying22 (by kernel_rfl) (by decide) (by kernel_rfl) (hval 0 22 v0 rfl rfl) h0
  have f0_0 := fun j hj => leaf_int Try.underlying3 (lf0 0 3 (by simp) j hj)
  have f0_1 := fun j hj => leaf_int Try.underlying24 (lf0 1 24 (by simp) j hj)
  have f0_2 := fun j hj => leaf_int Try.underlying24 (lf0 2 24 (by simp) j hj)
  have f0_3 := fun j hj => leaf_int Try.underlying24 (lf0 3 24 (by simp) j hj)
  obtain ⟨A1, n1, cap1, V1, rfl, le1, mx1, rd1, lf1⟩ := open_slice_spots (m := 2) (d := 20) (l := [(0, 3), (1, 24)]) Try.underlying23 (by kernel_rfl) (by decide) (by kernel_rfl) (hval 1 23 v1 rfl rfl) h1
  have f1_0 := fun j hj => leaf_int Try.underlying3 (lf1 0 3 (by simp) j hj)
  have f1_1 := fun j hj => leaf_int Try.underlying24 (lf1 1 24 (by simp) j hj)
  obtain ⟨a2, rfl, rfl, rfl, w2⟩ := open_int Try.underlying5 (hval 2 5 v2 rfl rfl) h2
  refine ⟨⟨rfl, rfl, rfl⟩, ?_⟩
  obtain ⟨T, hT⟩ := Go.Deep.choose_lt (n := n0) (p := fun j (d : Wk) => V0 j 0 = .int .i64 d.prio ∧ V0 j 1 = .int .u64 d.cost ∧ V0 j 2 = .int .u64 d.per ∧ V0 j 3 = .int .u64 d.dead) (fun j hj => by
    obtain ⟨x0, h0, -⟩ := f0_0 j hj
    obtain ⟨x1, h1, -⟩ := f0_1 j hj
    obtain ⟨x2, h2, -⟩ := f0_2 j hj
    obtain ⟨x3, h3, -⟩ := f0_3 j hj
    exact ⟨⟨x0, x1, x2, x3⟩, h0, h1, h2, h3⟩)
  obtain ⟨S, hS⟩ := Go.Deep.choose_lt (n := n1) (p := fun j (d : Ld) => V1 j 0 = .int .i64 d.b ∧ V1 j 1 = .int .u64 d.per ∧ d.typed) (fun j hj => by
    obtain ⟨x0, h0, w0⟩ := f1_0 j hj
    obtain ⟨x1, h1, w1⟩ := f1_1 j hj
    exact ⟨⟨x0, x1⟩, h0, h1, bounds_i64 w0, bounds_u64 w1⟩)
  exact walk A0 A1 n0 cap0 n1 cap1 T S a2 W (bounds_u8 w2) (by omega) (by omega) (ts_of rd0 hT) (ls_of rd1 fun j hj => ⟨(hS j hj).1, (hS j hj).2.1⟩) (fun j hj => (hS j hj).2.2)

theorem over : Rows.rtaSwappedRow.holds Try.pinned (OpenSpec.ofChange Rows.rtaSwappedSpec) :=
  OpenClaim.holds_of_wide 8 Try.f8 rfl rfl rfl rfl rfl rfl rfl ⟨rfl, rfl, rfl, rfl, rfl⟩ rfl rfl rfl rfl rfl (by kernel_rfl) Try.func8 (by kernel_rfl)
    (of_decide_eq_true (by kernel_rfl)) (by unfold Func.isWrapper; first | (rw [if_pos (by decide +kernel)]; kernel_rfl) | (rw [if_neg (by decide +kernel)]; exact ⟨rfl, rfl⟩))
    (fun os started H enc _ => lifted os started H enc)
theorem proved : Rows.RtaSwappedSaid := over
#print axioms proved
end Go.Proofs.Ythbghenikooagaa.rtaSwapped
