/-
  For every script ReadyPlays answers true, and changes nothing: each answer, the first, and all as they stand, are what the document says. No condition.
-/
import Derived.Test.YtebcdpgalbibkaaRows
import Derived.Test.YtebcdpgalbibkaaFr
import Derived.Test.YtebcdpgalbibkaaReadyU
import Derived.Deep.DeepCutAuto
import Derived.Deep.CutBlock
import Derived.Test.YtebcdpgalbibkaaOpen
import Derived.Test.YtebcdpgalbibkaaRd
namespace Go.Proofs.Ytebcdpgalbibkaa.readyPlays
open Go.ChangeShapes Go.WideShapes Go.ChangeAt Go.RowKit
set_option linter.unusedVariables false
theorem own : ownKnob Try.prog.godebug = none := by kernel_rfl
theorem laid : laidOutB Try.prog = true := by kernel_rfl
set_option maxRecDepth 100000
set_option maxHeartbeats 4000000
theorem walk (A : Option Addr) (n cap : Nat) (V : Nat → Nat → Value) (w : World) (hm : n ≤ maxLen) (rd : RdM w A n 3 V) (hV : ∀ j, j < n → ∃ z i p : Int, V j 0 = .int .i64 z ∧ V j 1 = .int .i64 i ∧ V j 2 = .int .i64 p) :
    Calls Try.prog 3 #[.slice A n cap] w fun r w' => r = .returned (.bool true) ∧ Below w.heap.size w w' := by
  unfold maxLen at hm
  have RD := Lib.hid rd
  have HV := Lib.hid hV
  clear rd hV
  go_enter Try.func3, Try.ntmps3
  go_wp2_with fail
  refine (awake_o (St.begin w)).mono ?_
  rintro r w1 ⟨rfl, s1⟩
  go_wp2_with fail
  refine (New_o s1).mono ?_
  rintro r w2 ⟨q, rfl, s2'⟩
  have s3 : St w None _ [QueR q QS.new, RQR w2.heap.size QS.new.all] := rq_new s2'
  obtain ⟨r, hr⟩ : ∃ r, w2.heap.size = r := ⟨_, rfl⟩
  rw [hr] at s3
  have S3 := Lib.hid s3
  clear s1 s2' s3
  go_wp2_with fail
  go_loopw [5] (fun i wr => ∃ (k : Nat) (s : QS), k ≤ n ∧ k ≤ 120 ∧ i = .int .i64 k ∧ s.ok k ∧ St w None wr [QueR q s, RQR r s.all]) (fun i _ => n - (intOf i).toNat)
  case atStart => exact ⟨0, QS.new, by omega, by omega, rfl, QS.new_ok, S3.out⟩
  case round =>
    clear S3 hr
    obtain ⟨k, s, hk, hk2, rfl, hok, sr⟩ := hrel
    have OK := Lib.hid hok
    have SR := Lib.hid sr
    clear hok
    by_cases hlt : k < n
    case neg =>
      clear sr
      go_wp2_with fail
      go_ret
      exact ⟨rfl, SR.out.below⟩
    have t0 : decide ((k : Int) < (n : Int)) = true := decide_eq_true (by omega)
    have t0' : decide (k < n) = true := decide_eq_true hlt
    by_cases hlt2 : k < 120
    case neg =>
      have t1 : decide ((k : Int) < 120) = false := decide_eq_false (by omega)
      have t1' : decide (k < 120) = false := decide_eq_false hlt2
      clear sr hlt2 hlt hk2 hk
      go_wp2_with fail
      go_ret
      exact ⟨rfl, SR.out.below⟩
    have t1 : decide ((k : Int) < 120) = true := decide_eq_true (by omega)
    have t1' : decide (k < 120) = true := decide_eq_true hlt2
    obtain ⟨ib, off, rfl, e0, e1, e2⟩ := RD.out.at3 sr.below hlt
    obtain ⟨z, id, p, v0, v1, v2⟩ := HV.out k hlt
    rw [v0] at e0
    rw [v1] at e1
    rw [v2] at e2
    have sb : St w None (wr.alloc (.cells #[.int .i64 z, .int .i64 id, .int .i64 p] 31)) [QueR q s, RQR r s.all, BlkR wr.heap.size 31 #[.int .i64 z, .int .i64 id, .int .i64 p]] := St.box (L := [_, _]) sr _ _
    obtain ⟨db, hdb⟩ : ∃ db, wr.heap.size = db := ⟨_, rfl⟩
    rw [hdb] at sb
    have SB := Lib.hid sb
    obtain ⟨b0, b1, b2⟩ := (sb.blk 2 rfl).three
    clear sr sb v0 v1 v2 SR
    go_upto_block 2 with (fail)
    generalize wr.alloc (.cells #[.int .i64 z, .int .i64 id, .int .i64 p] 31) = wB at *
    clear e0 e1 e2
    go_cut [7, 8] (fun x7 x8 wx => ∃ (f : Int) (s' : QS), x7 = .int .i64 f ∧ x8 = .int .i64 f ∧ s'.ok (k + 1) ∧ St w None wx [QueR q s', RQR r s'.all])
    case first =>
      by_cases h0 : z = 0
      · subst h0
        obtain ⟨f, s', hP⟩ := comeP_ex s id p
        · have HO := Lib.hid (hP.ok OK.out (by omega))
          have C1 := Lib.hid (Come_o (i := 0) SB.out rfl OK.out id p f hP)
          have C2 := Lib.hid (fun (W : World) (K : St w None W [QueR q s', RQR r s.all, BlkR db 31 #[.int .i64 0, .int .i64 id, .int .i64 p]]) => RCome_o (i := 1) K rfl OK.out id p f hP)
          clear hP SB
          go_wp2_with fail
          refine C1.out.mono ?_
          rintro r' w6 ⟨rfl, s6'⟩
          have s6 : St w None w6 [QueR q s', RQR r s.all, BlkR db 31 #[.int .i64 0, .int .i64 id, .int .i64 p]] := s6'
          clear b0 b1 b2
          obtain ⟨b0, b1, b2⟩ := (s6.blk 2 rfl).three
          have D2 := Lib.hid (C2.out _ s6)
          clear s6 s6' C1 C2
          go_wp2_with fail
          refine D2.out.mono ?_
          rintro r' w7 ⟨rfl, s7'⟩
          have s7 : St w None w7 [QueR q s', RQR r s'.all, BlkR db 31 #[.int .i64 0, .int .i64 id, .int .i64 p]] := s7'
          have S8 := Lib.hid (show St w None w7 [QueR q s', RQR r s'.all] from s7.take 2)
          clear s7 s7' D2 b0 b1 b2
          go_wp2_with fail
          go_meet
          exact ⟨f, s', rfl, rfl, HO.out, S8.out⟩
      have z0 : (z == 0) = false := beq_eq_false_iff_ne.2 h0
      by_cases h1 : z = 1
      · subst h1
        obtain ⟨f, s', hP⟩ := goP_ex s id
        · have HO := Lib.hid ((hP.ok OK.out).more (show k ≤ k + 1 by omega) (by omega))
          have C1 := Lib.hid (Go_o (i := 0) SB.out rfl OK.out id f hP)
          have C2 := Lib.hid (fun (W : World) (K : St w None W [QueR q s', RQR r s.all, BlkR db 31 #[.int .i64 1, .int .i64 id, .int .i64 p]]) => RGo_o (i := 1) K rfl OK.out id f hP)
          clear hP SB
          go_wp2_with fail
          refine C1.out.mono ?_
          rintro r' w6 ⟨rfl, s6'⟩
          have s6 : St w None w6 [QueR q s', RQR r s.all, BlkR db 31 #[.int .i64 1, .int .i64 id, .int .i64 p]] := s6'
          clear b0 b1 b2
          obtain ⟨b0, b1, b2⟩ := (s6.blk 2 rfl).three
          have D2 := Lib.hid (C2.out _ s6)
          clear s6 s6' C1 C2
          go_wp2_with fail
          refine D2.out.mono ?_
          rintro r' w7 ⟨rfl, s7'⟩
          have s7 : St w None w7 [QueR q s', RQR r s'.all, BlkR db 31 #[.int .i64 1, .int .i64 id, .int .i64 p]] := s7'
          have S8 := Lib.hid (show St w None w7 [QueR q s', RQR r s'.all] from s7.take 2)
          clear s7 s7' D2 b0 b1 b2
          go_wp2_with fail
          go_meet
          exact ⟨f, s', rfl, rfl, HO.out, S8.out⟩
      have z1 : (z == 1) = false := beq_eq_false_iff_ne.2 h1
      clear h0 h1
      obtain ⟨f, s', hP⟩ := changeP_ex s id p
      · · have HO := Lib.hid (hP.ok OK.out (by omega))
          have C1 := Lib.hid (Change_o (i := 0) SB.out rfl OK.out id p f hP)
          have C2 := Lib.hid (fun (W : World) (K : St w None W [QueR q s', RQR r s.all, BlkR db 31 #[.int .i64 z, .int .i64 id, .int .i64 p]]) => RChange_o (i := 1) K rfl OK.out id p f hP)
          clear hP SB
          go_wp2_with fail
          refine C1.out.mono ?_
          rintro r' w6 ⟨rfl, s6'⟩
          have s6 : St w None w6 [QueR q s', RQR r s.all, BlkR db 31 #[.int .i64 z, .int .i64 id, .int .i64 p]] := s6'
          clear b0 b1 b2
          obtain ⟨b0, b1, b2⟩ := (s6.blk 2 rfl).three
          have D2 := Lib.hid (C2.out _ s6)
          clear s6 s6' C1 C2
          go_wp2_with fail
          refine D2.out.mono ?_
          rintro r' w7 ⟨rfl, s7'⟩
          have s7 : St w None w7 [QueR q s', RQR r s'.all, BlkR db 31 #[.int .i64 z, .int .i64 id, .int .i64 p]] := s7'
          have S8 := Lib.hid (show St w None w7 [QueR q s', RQR r s'.all] from s7.take 2)
          clear s7 s7' D2 b0 b1 b2
          go_wp2_with fail
          go_meet
          exact ⟨f, s', rfl, rfl, HO.out, S8.out⟩
    case rest =>
      clear b0 b1 b2 OK SB
      obtain ⟨f, s', rfl, rfl, ok', s8⟩ := hcut
      obtain ⟨a, p', g, hF⟩ := firstP_ex s'
      have OK' := Lib.hid ok'
      have S8 := Lib.hid s8
      have HF := Lib.hid hF
      clear s8 ok' hF t0 t0' t1 t1'
      go_wp2_with fail
      refine (First_o (i := 0) S8.out rfl OK'.out a p' g HF.out).mono ?_
      rintro r' w9 ⟨rfl, s9⟩
      have S9 := Lib.hid s9
      clear s9 S8
      go_wp2_with fail
      refine (RFirst_o (i := 1) S9.out rfl OK'.out a p' g HF.out).mono ?_
      rintro r' w10 ⟨rfl, s10⟩
      have S10 := Lib.hid s10
      clear s10 S9
      go_wp2_with fail
      refine (All_o (i := 0) S10.out rfl OK'.out).mono ?_
      rintro r' w11 ⟨B, c, rfl, s11⟩
      have S11 := Lib.hid (show St w None w11 [QueR q s', RQR r s'.all, LisR 3 1 (.slice B s'.all.length c) s'.all.length (ivs s'.ids)] from s11)
      clear s11 S10
      obtain ⟨N, hN⟩ : ∃ N, s'.all.length = N := ⟨_, rfl⟩
      have HN := Lib.hid hN
      rw [hN] at S11 ⊢
      clear hN
      go_wp2_with fail
      refine (RAll_o (i := 1) S11.out rfl OK'.out).mono ?_
      rintro r' w12 ⟨B2, c2, rfl, s12⟩
      rw [HN.out] at s12 ⊢
      have s12' : St w None w12 [QueR q s', RQR r s'.all, LisR 3 1 (.slice B N c) N (ivs s'.ids), LisR 3 1 (.slice B2 N c2) N (ivs s'.ids)] := s12
      have IN := Lib.hid (Ints_c (s12'.lis 2 rfl) (s12'.lis 3 rfl))
      have S12 := Lib.hid s12'
      clear s12 s12' S11
      go_wp2_with fail
      refine IN.out.mono ?_
      rintro r' w13 ⟨rfl, hb⟩
      have S13 := Lib.hid (show St w None w13 [QueR q s', RQR r s'.all] from (S12.out.stay hb).take 2)
      clear hb IN S12
      go_wp2_with fail
      go_roundw
      case rel => exact ⟨k + 1, s', by omega, by omega, by go_num, OK'.out, S13.out⟩
      case measure => simp [intOf]; omega

set_option maxRecDepth 100000 in
theorem lifted (os : Os) (started : os.Started) (H : Type) (enc : TypeId × Value → H) :
    ReturnsInHanded {} Try.checked os 3 .any (Rows.readyPlaysSpec.pre6 enc Try.prog Try.f3 Rows.readyPlaysRow.domain false) (Rows.readyPlaysSpec.post enc Try.prog Try.f3 false true false false) := by
  refine law_lifted (C := Try.checked) (tb := 4) own started (by kernel_rfl) Try.func3
    (ChangeSpec.witness6 (enc := enc) (C := Try.checked) false ⟨#[], #[.slice none 0 0], []⟩ 8 (by kernel_rfl) (by kernel_rfl) (by kernel_rfl) (by kernel_rfl)) laid (by kernel_rfl) (by kernel_rfl) Try.underlying4 rfl ?_
  intro W base args ds ps hval0 hA0 hlt
  have hval : ∀ (j : Nat) t v, Try.f3.params[j]? = some t → args[j]? = some v → Value.okWide Try.prog W .any base t v := hval0
  have hA : DataW.TrodAll enc Try.prog W 0 (fun _ => true) true Try.f3.params.toList args.toList ds ps := hA0
  clear hA0 hval0
  rw [Try.params3] at hA hval
  obtain ⟨v0, vs0, d0, ds0, p0, q0, hargs, rfl, rfl, h0, r0⟩ := trodAll_cons hA
  obtain ⟨rfl, rfl, rfl⟩ := trodAll_nil r0
  obtain rfl : args = #[v0] := by cases args; simp_all
  obtain ⟨A0, n0, cap0, V0, rfl, le0, mx0, rd0, lf0⟩ := open_slice_spots (m := 3) (d := 20) (l := [(0, 3), (1, 3), (2, 3)]) Try.underlying22 (by kernel_rfl) (by decide) (by kernel_rfl) (hval 0 22 v0 rfl rfl) h0
  have f0_0 := fun j hj => leaf_int Try.underlying3 (lf0 0 3 (by simp) j hj)
  have f0_1 := fun j hj => leaf_int Try.underlying3 (lf0 1 3 (by simp) j hj)
  have f0_2 := fun j hj => leaf_int Try.underlying3 (lf0 2 3 (by simp) j hj)
  refine ⟨⟨rfl, rfl, rfl⟩, ?_⟩
  exact walk A0 n0 cap0 V0 W (by omega) rd0 (fun j hj => by
    obtain ⟨x0, h0, -⟩ := f0_0 j hj
    obtain ⟨x1, h1, -⟩ := f0_1 j hj
    obtain ⟨x2, h2, -⟩ := f0_2 j hj
    exact ⟨x0, x1, x2, h0, h1, h2⟩)

theorem over : Rows.readyPlaysRow.holds Try.pinned (OpenSpec.ofChange Rows.readyPlaysSpec) :=
  OpenClaim.holds_of_wide 3 Try.f3 rfl rfl rfl rfl rfl rfl rfl ⟨rfl, rfl, rfl, rfl, rfl⟩ rfl rfl rfl rfl rfl (by kernel_rfl) Try.func3 (by kernel_rfl)
    (of_decide_eq_true (by kernel_rfl)) (by unfold Func.isWrapper; first | (rw [if_pos (by decide +kernel)]; kernel_rfl) | (rw [if_neg (by decide +kernel)]; exact ⟨rfl, rfl⟩))
    (fun os started H enc _ => lifted os started H enc)
theorem proved : Rows.ReadyPlaysSaid := over
#print axioms proved
end Go.Proofs.Ytebcdpgalbibkaa.readyPlays
