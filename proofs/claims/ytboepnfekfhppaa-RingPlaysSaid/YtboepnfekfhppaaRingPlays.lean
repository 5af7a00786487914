/-
  For every size and every script RingPlays answers true, and changes nothing: each answer, the counts, and what lies in each place, is what the document says. No condition.
-/
import Derived.Test.YtboepnfekfhppaaRows
import Derived.Test.YtboepnfekfhppaaFr
import Derived.Test.YtboepnfekfhppaaRingW
import Derived.Deep.RegionHeld3
import Derived.Deep.DeepCutAuto
import Derived.Deep.CutBlock
import Derived.Test.YtboepnfekfhppaaOpen
namespace Go.Proofs.Ytboepnfekfhppaa.ringPlays
open Go.ChangeShapes Go.WideShapes Go.ChangeAt Go.RowKit
set_option linter.unusedVariables false
theorem own : ownKnob Try.prog.godebug = none := by kernel_rfl
theorem laid : laidOutB Try.prog = true := by kernel_rfl
set_option maxRecDepth 100000
set_option maxHeartbeats 4000000
theorem small (z : Int) (A : Option Addr) (n cap : Nat) (w : World) (hz : z < 1 ∨ 64 < z) :
    Calls Try.prog 3 #[.int .i64 z, .slice A n cap] w fun r w' => r = .returned (.bool true) ∧ Below w.heap.size w w' := by
  have na := Lib.hid (fun w => New_no z hz w)
  by_cases h1 : z < 1
  · have d1 : decide (z < 1) = true := decide_eq_true h1
    clear hz
    go_enter Try.func3, Try.ntmps3
    go_wp2_with fail
    refine (awake_o (St.begin w)).mono ?_
    rintro r w1 ⟨rfl, s1⟩
    go_wp2_with fail
    refine (na.out _).mono ?_
    rintro r w2 ⟨rfl, rfl⟩
    go_wp2_with fail
    go_ret
    exact ⟨rfl, s1.below⟩
  · have d1 : decide (z < 1) = false := decide_eq_false h1
    have d2 : decide (64 < z) = true := decide_eq_true (by omega)
    clear hz
    go_enter Try.func3, Try.ntmps3
    go_wp2_with fail
    refine (awake_o (St.begin w)).mono ?_
    rintro r w1 ⟨rfl, s1⟩
    go_wp2_with fail
    refine (na.out _).mono ?_
    rintro r w2 ⟨rfl, rfl⟩
    go_wp2_with fail
    go_ret
    exact ⟨rfl, s1.below⟩
theorem walk (z0 : Int) (A : Option Addr) (q cap : Nat) (E : Nat → RDo) (w : World) (hm : q ≤ maxLen) (rd : Rs w A q E) :
    Calls Try.prog 3 #[.int .i64 z0, .slice A q cap] w fun r w' => r = .returned (.bool true) ∧ Below w.heap.size w w' := by
  unfold maxLen at hm
  by_cases hz : z0 < 1 ∨ 64 < z0
  · exact small z0 A q cap w hz
  · obtain ⟨n, rfl⟩ : ∃ n : Nat, (n : Int) = z0 := ⟨z0.toNat, by omega⟩
    have h0 : 1 ≤ n := by omega
    have hn : n ≤ 64 := by omega
    have d1 : decide ((n : Int) < 1) = false := decide_eq_false (by omega)
    have d2 : decide (64 < (n : Int)) = false := decide_eq_false (by omega)
    have d2' : decide (64 < n) = false := decide_eq_false (by omega)
    have RD := Lib.hid rd
    clear hz rd
    go_enter Try.func3, Try.ntmps3
    go_wp2_with fail
    refine (awake_o (St.begin w)).mono ?_
    rintro r w1 ⟨rfl, s1⟩
    go_wp2_with fail
    refine (New_o s1 h0 hn).mono ?_
    rintro r w2 ⟨p, rfl, s2⟩
    have s3 : St w None _ [RingR p n RSt.new, RRR w2.heap.size n RSt.new] := rrr_new s2 n
    obtain ⟨r, hr⟩ : ∃ r, w2.heap.size = r := ⟨_, rfl⟩
    rw [hr] at s3
    have S3 := Lib.hid s3
    clear s1 s2 s3 d1 d2 d2'
    go_wp2_with fail
    go_loopw [8] (fun i wr => ∃ (k : Nat) (s : RSt), k ≤ q ∧ k ≤ 150 ∧ i = .int .i64 k ∧ s.ok n ∧ s.fine ∧ s.put ≤ k ∧ St w None wr [RingR p n s, RRR r n s]) (fun i _ => q - (intOf i).toNat)
    case atStart => exact ⟨0, RSt.new, by omega, by omega, rfl, RSt.new_ok h0 hn, RSt.new_fine, Nat.le_refl _, S3.out⟩
    case round =>
      clear S3
      obtain ⟨k, s, hk, hk2, rfl, hok, hfine, hput, sr⟩ := hrel
      by_cases hlt : k < q
      case neg =>
        go_wp2
        go_ret
        exact ⟨rfl, sr.below⟩
      by_cases hlt2 : k < 150
      case neg =>
        go_wp2
        go_ret
        exact ⟨rfl, sr.below⟩
      obtain ⟨ib, off, rfl, e0, e1, e2, e3, e4, e5, e6, e7, e8, e9, e10, e11⟩ := RD.out.at_ sr.below hlt
      have FIT := Lib.hid (RD.out.fits k hlt)
      generalize E k = x at *
      have sb : St w None (wr.alloc (.cells x.cells 38)) [RingR p n s, RRR r n s, BlkR wr.heap.size 38 x.cells] := St.box (L := [_, _]) sr _ _
      obtain ⟨db, hdb⟩ : ∃ db, wr.heap.size = db := ⟨_, rfl⟩
      rw [hdb] at sb
      have OK := Lib.hid hok
      have FN := Lib.hid hfine
      have SB := Lib.hid sb
      obtain ⟨b0, b1, b2, b3, b4, b5, b6, b7, b8, b9, b10, b11⟩ := do12 (sb.blk 2 rfl)
      clear sr hok hfine sb
      obtain ⟨z, d, no, st⟩ := x
      obtain ⟨op, req, slot, gen, frm, len, dv, dn, dst⟩ := d
      dsimp only [RDo.cells] at e0 e1 e2 e3 e4 e5 e6 e7 e8 e9 e10 e11 b0 b1 b2 b3 b4 b5 b6 b7 b8 b9 b10 b11 SB FIT
      go_upto_block 2 with (fail)
      go_cut [] (fun wx => ∃ s' : RSt, s'.ok n ∧ s'.fine ∧ s'.put ≤ s.put + 1 ∧ St w None wx [RingR p n s', RRR r n s'])
      case first =>
        by_cases h0 : z = 0
        · subst h0
          obtain ⟨a, f, s', hP⟩ := putP_ex OK.out ⟨op, req, slot, gen, frm, len, dv, dn, dst⟩
          have HO := Lib.hid (hP.fine_ok OK.out FN.out (by omega))
          have HP := Lib.hid hP
          clear hP
          go_wp2_with fail
          refine (Put_o SB.out 0 rfl OK.out ⟨op, req, slot, gen, frm, len, dv, dn, dst⟩ FIT.out a f HP.out (by omega)).mono ?_
          rintro r' w6 ⟨rfl, s6⟩
          clear b0 b1 b2 b3 b4 b5 b6 b7 b8 b9 b10 b11 e0 e1 e2 e3 e4 e5 e6 e7 e8 e9 e10 e11
          obtain ⟨b0, b1, b2, b3, b4, b5, b6, b7, b8, b9, b10, b11⟩ := do12 (x := ⟨0, ⟨op, req, slot, gen, frm, len, dv, dn, dst⟩, no, st⟩) (s6.blk 2 rfl)
          have S6 := Lib.hid s6
          clear s6 SB
          go_wp2_with fail
          refine (RPut_o S6.out 1 rfl OK.out ⟨op, req, slot, gen, frm, len, dv, dn, dst⟩ FIT.out a f HP.out (by omega)).mono ?_
          rintro r' w7 ⟨rfl, s7⟩
          have S8 := Lib.hid (show St w None w7 [RingR p n s', RRR r n s'] from s7.take 2)
          clear s7 S6 b0 b1 b2 b3 b4 b5 b6 b7 b8 b9 b10 b11 HP OK FN FIT
          go_wp2_with fail
          go_meet
          exact ⟨s', HO.out.1, HO.out.2.1, HO.out.2.2, S8.out⟩
        have z0 : (z == 0) = false := beq_eq_false_iff_ne.2 h0
        by_cases h1 : z = 1
        · subst h1
          obtain ⟨a, o, f, s', hP⟩ := takeP_ex OK.out
          have HO := Lib.hid (hP.fine_ok OK.out FN.out)
          have HP := Lib.hid hP
          clear hP
          go_wp2_with fail
          refine (Take_o SB.out 0 rfl OK.out a f o HP.out).mono ?_
          rintro r' w6 ⟨rfl, s6⟩
          clear b0 b1 b2 b3 b4 b5 b6 b7 b8 b9 b10 b11 e0 e1 e2 e3 e4 e5 e6 e7 e8 e9 e10 e11
          have S6 := Lib.hid (show St w None (w6.alloc (.cells o.cells 36)) [RingR p n s', RRR r n s, BlkR w6.heap.size 36 o.cells] from St.box (L := [_, _]) (s6.take 2) _ _)
          clear s6 SB
          unfold Dsc.v
          go_wp2_with fail
          refine (RTake_o S6.out 1 rfl OK.out a f o HP.out).mono ?_
          rintro r' w7 ⟨rfl, s7⟩
          have s8 : St w None (w7.alloc (.cells o.cells 36)) [RingR p n s', RRR r n s', BlkR w6.heap.size 36 o.cells, BlkR w7.heap.size 36 o.cells] := St.box (L := [_, _, _]) s7 _ _
          obtain ⟨c0, c1, c2, c3, c4, c5, c6, c7, c8⟩ := dsc9 _ _ _ (s8.blk 2 rfl)
          obtain ⟨e0, e1, e2, e3, e4, e5, e6, e7, e8⟩ := dsc9 _ _ _ (s8.blk 3 rfl)
          have S8 := Lib.hid (show St w None (w7.alloc (.cells o.cells 36)) [RingR p n s', RRR r n s'] from s8.take 2)
          clear s7 s8 S6 HP OK FN FIT
          unfold Dsc.cells at c0 c1 c2 c3 c4 c5 c6 c7 c8 e0 e1 e2 e3 e4 e5 e6 e7 e8 S8
          unfold Dsc.v
          go_wp2_with fail
          go_meet
          exact ⟨s', HO.out.1, HO.out.2.1, HO.out.2.2, S8.out⟩
        have z1 : (z == 1) = false := beq_eq_false_iff_ne.2 h1
        by_cases h2 : z = 2
        · subst h2
          obtain ⟨f, s', hP⟩ := finP_ex s no st
          have HO := Lib.hid (hP.fine_ok OK.out FN.out)
          have HP := Lib.hid hP
          clear hP
          have qq : (wr.alloc (.cells #[.int .i64 2, .int .i64 op, .int .i64 req, .int .i64 slot, .int .u64 gen, .int .i64 frm, .int .i64 len, .bool dv, .bool dn, .int .i64 dst, .int .i64 no, .int .i64 st] 38)).cell? ⟨db, 10, none⟩ = some (.int .i64 no) ∧ (wr.alloc (.cells #[.int .i64 2, .int .i64 op, .int .i64 req, .int .i64 slot, .int .u64 gen, .int .i64 frm, .int .i64 len, .bool dv, .bool dn, .int .i64 dst, .int .i64 no, .int .i64 st] 38)).cell? ⟨db, 11, none⟩ = some (.int .i64 st) := ⟨b10, b11⟩
          go_upto_region 27 with (fail)
          generalize (wr.alloc (.cells #[.int .i64 2, .int .i64 op, .int .i64 req, .int .i64 slot, .int .u64 gen, .int .i64 frm, .int .i64 len, .bool dv, .bool dn, .int .i64 dst, .int .i64 no, .int .i64 st] 38)) = wB at *
          clear e0 e1 e2 e3 e4 e5 e6 e7 e8 e9 e10 e11
          go_region_held3 (fun w' => w'.cell? ⟨db, 10, none⟩ = some (.int .i64 no) ∧ w'.cell? ⟨db, 11, none⟩ = some (.int .i64 st)) (go_keep)
            (first
              | (go_at_call 14; refine (Finish_o SB.out.drew 0 rfl OK.out no st f HP.out).mono ?_; rintro r' w6 ⟨rfl, s6⟩; have S6 := Lib.hid s6; have q6' := do12 (x := ⟨2, ⟨op, req, slot, gen, frm, len, dv, dn, dst⟩, no, st⟩) (s6.blk 2 rfl); have q6 := And.intro q6'.2.2.2.2.2.2.2.2.2.2.1 q6'.2.2.2.2.2.2.2.2.2.2.2; clear s6 q6')
              | (go_at_call 15; refine (RFinish_o S6.out 1 rfl OK.out no st f HP.out).mono ?_; rintro r' w7 ⟨rfl, s7⟩; have S7 := Lib.hid s7; have q7' := do12 (x := ⟨2, ⟨op, req, slot, gen, frm, len, dv, dn, dst⟩, no, st⟩) (s7.blk 2 rfl); have q7 := And.intro q7'.2.2.2.2.2.2.2.2.2.2.1 q7'.2.2.2.2.2.2.2.2.2.2.2; clear s7 q7'))
          have S8 := Lib.hid (show St w None w7 [RingR p n s', RRR r n s'] from S7.out.take 2)
          clear b0 b1 b2 b3 b4 b5 b6 b7 b8 b9 b10 b11 qq q6 q7 S6 S7 SB HP OK FN FIT
          go_wp2_with fail
          go_meet
          exact ⟨s', HO.out.1, HO.out.2.1, HO.out.2.2, S8.out⟩
        have z2 : (z == 2) = false := beq_eq_false_iff_ne.2 h2
        by_cases h3 : z = 3
        · subst h3
          obtain ⟨o, f, s', hP⟩ := reapP_ex OK.out
          have HO := Lib.hid (hP.fine_ok OK.out FN.out)
          have HP := Lib.hid hP
          clear hP
          go_wp2_with fail
          refine (Reap_o SB.out 0 rfl OK.out o f HP.out).mono ?_
          rintro r' w6 ⟨rfl, s6⟩
          clear b0 b1 b2 b3 b4 b5 b6 b7 b8 b9 b10 b11 e0 e1 e2 e3 e4 e5 e6 e7 e8 e9 e10 e11
          have S6 := Lib.hid (show St w None (w6.alloc (.cells o.cells 36)) [RingR p n s', RRR r n s, BlkR w6.heap.size 36 o.cells] from St.box (L := [_, _]) (s6.take 2) _ _)
          clear s6 SB
          unfold Dsc.v
          go_wp2_with fail
          refine (RReap_o S6.out 1 rfl OK.out o f HP.out).mono ?_
          rintro r' w7 ⟨rfl, s7⟩
          have s8 : St w None (w7.alloc (.cells o.cells 36)) [RingR p n s', RRR r n s', BlkR w6.heap.size 36 o.cells, BlkR w7.heap.size 36 o.cells] := St.box (L := [_, _, _]) s7 _ _
          obtain ⟨c0, c1, c2, c3, c4, c5, c6, c7, c8⟩ := dsc9 _ _ _ (s8.blk 2 rfl)
          obtain ⟨e0, e1, e2, e3, e4, e5, e6, e7, e8⟩ := dsc9 _ _ _ (s8.blk 3 rfl)
          have S8 := Lib.hid (show St w None (w7.alloc (.cells o.cells 36)) [RingR p n s', RRR r n s'] from s8.take 2)
          clear s7 s8 S6 HP OK FN FIT
          unfold Dsc.cells at c0 c1 c2 c3 c4 c5 c6 c7 c8 e0 e1 e2 e3 e4 e5 e6 e7 e8 S8
          unfold Dsc.v
          go_wp2_with fail
          go_meet
          exact ⟨s', HO.out.1, HO.out.2.1, HO.out.2.2, S8.out⟩
        have z3 : (z == 3) = false := beq_eq_false_iff_ne.2 h3
        obtain ⟨s', hs'⟩ : ∃ s', s' = RSt.new := ⟨_, rfl⟩
        have HO := Lib.hid (RSt.new_fine_ok (n := n) s OK.out.n0 OK.out.n1)
        go_wp2_with fail
        refine (Reset_o SB.out 0 rfl OK.out _ rfl).mono ?_
        rintro r' w6 ⟨x6, rfl, s6⟩
        clear b0 b1 b2 b3 b4 b5 b6 b7 b8 b9 b10 b11 e0 e1 e2 e3 e4 e5 e6 e7 e8 e9 e10 e11
        have S6 := Lib.hid s6
        clear s6 SB
        go_wp2_with fail
        refine (RReset_o S6.out 1 rfl OK.out _ rfl).mono ?_
        rintro r' w7 ⟨x7, rfl, s7⟩
        have S7 := Lib.hid s7
        have SM := Lib.hid (Same_c (s7.lis 3 rfl) (s7.lis 4 rfl))
        clear s7 S6
        go_wp2_with fail
        refine SM.out.mono ?_
        rintro r' w8 ⟨rfl, hb8⟩
        have S8 := Lib.hid (show St w None w8 [RingR p n s', RRR r n s'] by rw [hs']; exact (S7.out.stay hb8).take 2)
        rw [← hs'] at HO
        clear S7 SM hb8 hs' OK FN FIT
        go_wp2_with fail
        go_meet
        exact ⟨s', HO.out.1, HO.out.2.1, HO.out.2.2, S8.out⟩
      case rest =>
        clear b0 b1 b2 b3 b4 b5 b6 b7 b8 b9 b10 b11 e0 e1 e2 e3 e4 e5 e6 e7 e8 e9 e10 e11
        obtain ⟨s', ok', fine', put', s8⟩ := hcut
        have S8 := Lib.hid s8
        have OK' := Lib.hid ok'
        have FN' := Lib.hid (And.intro fine' put')
        have n0' := ok'.n0
        have n1' := ok'.n1
        clear ok' fine' put' s8
        go_wp2_with fail
        refine (Counts_o S8.out 0 rfl).mono ?_
        rintro r' w10 ⟨rfl, s9⟩
        obtain ⟨_, hR⟩ := s9.get 1 rfl
        obtain ⟨LA, lc, l0, l1, l2, l3⟩ := rr_four hR
        have S9 := Lib.hid s9
        obtain ⟨P2, hP2⟩ : ∃ x, s'.put = x := ⟨_, rfl⟩
        obtain ⟨T2, hT2⟩ : ∃ x, s'.taken = x := ⟨_, rfl⟩
        obtain ⟨R2, hR2⟩ : ∃ x, s'.reaped = x := ⟨_, rfl⟩
        rw [hP2] at l1
        rw [hT2] at l2
        rw [hR2] at l3
        rw [hP2, hT2, hR2]
        clear s9 hR hP2 hT2 hR2 S8
        go_wp2_with fail
        go_loopw [27] (fun x wr => ∃ z : Int, -1 ≤ z ∧ z ≤ n + 1 ∧ x = .int .i64 z ∧ St w None wr [RingR p n s', RRR r n s']) (fun x _ => (n + 1 - (intOf x)).toNat)
        case atStart => exact ⟨-1, by omega, by omega, rfl, S9.out⟩
        case round =>
          clear l0 l1 l2 l3 S9
          obtain ⟨z, z0, z1, rfl, sl⟩ := hrel
          by_cases hle : z ≤ n
          · have t1 : decide (z ≤ (n : Int)) = true := decide_eq_true hle
            obtain ⟨o, f, hP⟩ := atP_ex OK'.out z
            have HP := Lib.hid hP
            clear hP
            go_wp2_with fail
            refine (At_o sl 0 rfl OK'.out z o f HP.out).mono ?_
            rintro r' w11 ⟨rfl, s11⟩
            have s12 : St w None (w11.alloc (.cells o.cells 36)) [RingR p n s', RRR r n s', BlkR w11.heap.size 36 o.cells] := St.box (L := [_, _]) s11 _ _
            have S12 := Lib.hid s12
            clear sl s11 s12
            unfold Dsc.v
            go_wp2_with fail
            refine (RAt_o S12.out 1 rfl OK'.out z o f HP.out).mono ?_
            rintro r' w13 ⟨rfl, s13⟩
            have s14 : St w None (w13.alloc (.cells o.cells 36)) [RingR p n s', RRR r n s', BlkR w11.heap.size 36 o.cells, BlkR w13.heap.size 36 o.cells] := St.box (L := [_, _, _]) s13 _ _
            obtain ⟨c0, c1, c2, c3, c4, c5, c6, c7, c8⟩ := dsc9 _ _ _ (s14.blk 2 rfl)
            obtain ⟨e0, e1, e2, e3, e4, e5, e6, e7, e8⟩ := dsc9 _ _ _ (s14.blk 3 rfl)
            have S14 := Lib.hid (s14.take 2)
            clear S12 s13 s14
            unfold Dsc.cells at c0 c1 c2 c3 c4 c5 c6 c7 c8 e0 e1 e2 e3 e4 e5 e6 e7 e8 S14
            unfold Dsc.v
            go_wp2_with fail
            go_roundw
            case rel => exact ⟨z + 1, by omega, by omega, rfl, S14.out⟩
            case measure => simp [intOf]; omega
          · have t1 : decide (z ≤ (n : Int)) = false := decide_eq_false hle
            go_wp2_with fail
            go_roundw
            case rel => exact ⟨k + 1, s', by omega, by omega, by go_num, OK'.out, FN'.out.1, by have := FN'.out.2; omega, sl⟩
            case measure => simp [intOf]; omega

set_option maxRecDepth 100000 in
theorem lifted (os : Os) (started : os.Started) (H : Type) (enc : TypeId × Value → H) :
    ReturnsInHanded {} Try.checked os 3 .any (Rows.ringPlaysSpec.pre6 enc Try.prog Try.f3 Rows.ringPlaysRow.domain false) (Rows.ringPlaysSpec.post enc Try.prog Try.f3 false true false false) := by
  refine law_lifted (C := Try.checked) (tb := 4) own started (by kernel_rfl) Try.func3
    (ChangeSpec.witness6 (enc := enc) (C := Try.checked) false ⟨#[], #[.int .i64 0, .slice none 0 0], []⟩ 8 (by kernel_rfl) (by kernel_rfl) (by kernel_rfl) (by kernel_rfl)) laid (by kernel_rfl) (by kernel_rfl) Try.underlying4 rfl ?_
  intro W base args ds ps hval0 hA0 hlt
  have hval : ∀ (j : Nat) t v, Try.f3.params[j]? = some t → args[j]? = some v → Value.okWide Try.prog W .any base t v := hval0
  have hA : DataW.TrodAll enc Try.prog W 0 (fun _ => true) true Try.f3.params.toList args.toList ds ps := hA0
  clear hA0 hval0
  rw [Try.params3] at hA hval
  obtain ⟨v0, vs0, d0, ds0, p0, q0, hargs, rfl, rfl, h0, r0⟩ := trodAll_cons hA
  obtain ⟨v1, vs1, d1, ds1, p1, q1, rfl, rfl, rfl, h1, r1⟩ := trodAll_cons r0
  obtain ⟨rfl, rfl, rfl⟩ := trodAll_nil r1
  obtain rfl : args = #[v0, v1] := by cases args; simp_all
  obtain ⟨a0, rfl, rfl, rfl, w0⟩ := open_int Try.underlying3 (hval 0 3 v0 rfl rfl) h0
  obtain ⟨A1, n1, cap1, V1, rfl, le1, mx1, rd1, lf1⟩ := open_slice_spots (m := 12) (d := 20) (l := [(0, 3), (1, 3), (2, 3), (3, 3), (4, 32), (5, 3), (6, 3), (7, 4), (8, 4), (9, 3), (10, 3), (11, 3)]) Try.underlying22 (by kernel_rfl) (by decide) (by kernel_rfl) (hval 1 22 v1 rfl rfl) h1
  have f1_0 := fun j hj => leaf_int Try.underlying3 (lf1 0 3 (by simp) j hj)
  have f1_1 := fun j hj => leaf_int Try.underlying3 (lf1 1 3 (by simp) j hj)
  have f1_2 := fun j hj => leaf_int Try.underlying3 (lf1 2 3 (by simp) j hj)
  have f1_3 := fun j hj => leaf_int Try.underlying3 (lf1 3 3 (by simp) j hj)
  have f1_4 := fun j hj => leaf_int Try.underlying32 (lf1 4 32 (by simp) j hj)
  have f1_5 := fun j hj => leaf_int Try.underlying3 (lf1 5 3 (by simp) j hj)
  have f1_6 := fun j hj => leaf_int Try.underlying3 (lf1 6 3 (by simp) j hj)
  have f1_7 := fun j hj => leaf_bool Try.underlying4 (lf1 7 4 (by simp) j hj)
  have f1_8 := fun j hj => leaf_bool Try.underlying4 (lf1 8 4 (by simp) j hj)
  have f1_9 := fun j hj => leaf_int Try.underlying3 (lf1 9 3 (by simp) j hj)
  have f1_10 := fun j hj => leaf_int Try.underlying3 (lf1 10 3 (by simp) j hj)
  have f1_11 := fun j hj => leaf_int Try.underlying3 (lf1 11 3 (by simp) j hj)
  refine ⟨⟨rfl, rfl, rfl⟩, ?_⟩
  obtain ⟨E, hE⟩ := Go.Deep.choose_lt (n := n1) (p := fun j (x : RDo) => (∀ i, i < 12 → V1 j i = x.v i) ∧ x.d.fits) (fun j hj => by
    obtain ⟨x0, h0, w0⟩ := f1_0 j hj
    obtain ⟨x1, h1, w1⟩ := f1_1 j hj
    obtain ⟨x2, h2, w2⟩ := f1_2 j hj
    obtain ⟨x3, h3, w3⟩ := f1_3 j hj
    obtain ⟨x4, h4, w4⟩ := f1_4 j hj
    obtain ⟨x5, h5, w5⟩ := f1_5 j hj
    obtain ⟨x6, h6, w6⟩ := f1_6 j hj
    obtain ⟨x7, h7⟩ := f1_7 j hj
    obtain ⟨x8, h8⟩ := f1_8 j hj
    obtain ⟨x9, h9, w9⟩ := f1_9 j hj
    obtain ⟨x10, h10, -⟩ := f1_10 j hj
    obtain ⟨x11, h11, -⟩ := f1_11 j hj
    refine ⟨⟨x0, ⟨x1, x2, x3, x4, x5, x6, x7, x8, x9⟩, x10, x11⟩, fun i hi => ?_, bounds_i64 w1, bounds_i64 w2, bounds_i64 w3, bounds_u64 w4, bounds_i64 w5, bounds_i64 w6, bounds_i64 w9⟩
    match i, hi with
    | 0, _ => exact h0
    | 1, _ => exact h1
    | 2, _ => exact h2
    | 3, _ => exact h3
    | 4, _ => exact h4
    | 5, _ => exact h5
    | 6, _ => exact h6
    | 7, _ => exact h7
    | 8, _ => exact h8
    | 9, _ => exact h9
    | 10, _ => exact h10
    | 11, _ => exact h11)
  exact walk a0 A1 n1 cap1 E W (by omega) ⟨fun h => by
    obtain ⟨b, off, e, hb, hc⟩ := rd1 h
    exact ⟨b, off, e, hb, fun j hj i hi => by rw [hc j hj i hi, (hE j hj).1 i hi]⟩, fun j hj => (hE j hj).2⟩

theorem over : Rows.ringPlaysRow.holds Try.pinned (OpenSpec.ofChange Rows.ringPlaysSpec) :=
  OpenClaim.holds_of_wide 3 Try.f3 rfl rfl rfl rfl rfl rfl rfl ⟨rfl, rfl, rfl, rfl, rfl⟩ rfl rfl rfl rfl rfl (by kernel_rfl) Try.func3 (by kernel_rfl)
    (of_decide_eq_true (by kernel_rfl)) (by unfold Func.isWrapper; first | (rw [if_pos (by decide +kernel)]; kernel_rfl) | (rw [if_neg (by decide +kernel)]; exact ⟨rfl, rfl⟩))
    (fun os started H enc _ => lifted os started H enc)
theorem proved : Rows.RingPlaysSaid := over
#print axioms proved
end Go.Proofs.Ytboepnfekfhppaa.ringPlays
