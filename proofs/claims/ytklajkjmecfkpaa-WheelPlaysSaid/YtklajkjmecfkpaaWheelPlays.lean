/-
  For every script WheelPlays answers true, and changes nothing: whatever is set and cancelled, and however the time goes on, each answer, and all timers, are what the document says. No condition.
-/
import Derived.Test.YtklajkjmecfkpaaRows
import Derived.Test.YtklajkjmecfkpaaFr
import Derived.Test.YtklajkjmecfkpaaWhU
import Derived.Deep.DeepCutAuto
import Derived.Deep.CutBlock
import Derived.Deep.RegionHeld3
import Derived.Test.YtklajkjmecfkpaaOpen
import Derived.Test.YtklajkjmecfkpaaRd
namespace Go.Proofs.Ytklajkjmecfkpaa.wheelPlays
open Go.ChangeShapes Go.WideShapes Go.ChangeAt Go.RowKit
set_option linter.unusedVariables false
theorem own : ownKnob Try.prog.godebug = none := by kernel_rfl
theorem laid : laidOutB Try.prog = true := by kernel_rfl
set_option maxRecDepth 100000
set_option maxHeartbeats 4000000
theorem walk (A : Option Addr) (n cap : Nat) (V : Nat → Nat → Value) (w : World) (hm : n ≤ maxLen) (rd : RdM w A n 3 V) (hV : ∀ j, j < n → ∃ z i p : Int, V j 0 = .int .i64 z ∧ V j 1 = .int .i64 i ∧ V j 2 = .int .u64 p ∧ wfI i ∧ 0 ≤ p) :
    Calls Try.prog 3 #[.slice A n cap] w fun r w' => r = .returned (.bool true) ∧ Below w.heap.size w w' := by
  unfold maxLen at hm
  have RD := Lib.hid rd
  have HV := Lib.hid hV
  clear rd hV
  go_enter Try.func3, Try.ntmps3
  go_wp2_with fail
  refine (awake_c _).mono ?_
  rintro e w1 ⟨rfl, b1⟩
  have S1 := Lib.hid ((St.begin w).stay b1)
  clear b1
  go_wp2_with fail
  refine (wNew_o S1.out).mono ?_
  rintro e w2 ⟨c, rfl, s2⟩
  have s3 := rwt_new s2
  obtain ⟨r, hr⟩ : ∃ r, w2.heap.size = r := ⟨_, rfl⟩
  rw [hr] at s3
  have S3 := Lib.hid (show St w None _ [WheelR c 0 (fun _ => none), RWT r 0 (fun _ => none)] from s3)
  clear s2 s3 S1
  go_wp2_with fail
  go_loopw [5] (fun i wr => ∃ (k : Nat) (now : Int) (T : Int → Option Int), k ≤ n ∧ k ≤ 120 ∧ i = .int .i64 k ∧ St w None wr [WheelR c now T, RWT r now T]) (fun i _ => n - (intOf i).toNat)
  case atStart => exact ⟨0, _, _, by omega, by omega, rfl, S3.out⟩
  case round =>
    clear S3 hr
    obtain ⟨k, now, T, hk, hk2, rfl, sr⟩ := hrel
    have SR := Lib.hid sr
    by_cases hkn : k < n
    case neg =>
      clear sr
      go_wp2_with fail
      go_ret
      exact ⟨rfl, SR.out.below⟩
    have t0 : decide ((k : Int) < (n : Int)) = true := decide_eq_true (by omega)
    have t0' : decide (k < n) = true := decide_eq_true hkn
    by_cases hkn2 : k < 120
    case neg =>
      have t1 : decide ((k : Int) < 120) = false := decide_eq_false (by omega)
      have t1' : decide (k < 120) = false := decide_eq_false hkn2
      clear sr hkn2 hkn hk2 hk
      go_wp2_with fail
      go_ret
      exact ⟨rfl, SR.out.below⟩
    have t1 : decide ((k : Int) < 120) = true := decide_eq_true (by omega)
    have t1' : decide (k < 120) = true := decide_eq_true hkn2
    obtain ⟨ib, off, rfl, e0, e1, e2⟩ := RD.out.at3 sr.below hkn
    obtain ⟨z, id, p, v0, v1, v2, wid, wp⟩ := HV.out k hkn
    rw [v0] at e0
    rw [v1] at e1
    rw [v2] at e2
    obtain ⟨_, ok0, -⟩ := sr.get 0 rfl
    have OK := Lib.hid ok0
    have WID := Lib.hid wid
    have sb : St w None (wr.alloc (.cells #[.int .i64 z, .int .i64 id, .int .u64 p] 32)) [WheelR c now T, RWT r now T, BlkR wr.heap.size 32 #[.int .i64 z, .int .i64 id, .int .u64 p]] := St.box (L := [_, _]) sr _ _
    obtain ⟨db, hdb⟩ : ∃ db, wr.heap.size = db := ⟨_, rfl⟩
    rw [hdb] at sb
    have SB := Lib.hid sb
    obtain ⟨b0, b1, b2⟩ := (sb.blk 2 rfl).three
    have rn := (rwt_cells sb 1 rfl ok0).2
    clear sr sb v0 v1 v2 SR ok0 wid
    go_upto_block 2 with (fail)
    generalize wr.alloc (.cells #[.int .i64 z, .int .i64 id, .int .u64 p] 32) = wB at *
    clear e0 e1 e2
    go_cut [] (fun wx => ∃ (now' : Int) (T' : Int → Option Int), St w None wx [WheelR c now' T', RWT r now' T', BlkR db 32 #[.int .i64 z, .int .i64 id, .int .u64 p]])
    case first =>
      have n0 := OK.out.n0
      have n1 := OK.out.n1
      obtain ⟨x, hx⟩ : ∃ x, IntKind.u64.wrap (now + p) = x := ⟨_, rfl⟩
      have bx : 0 ≤ x := by rw [← hx, IntKind.wrap_u64]; omega
      by_cases h0 : z = 0
      · subst h0
        have y : ∀ f : Int, (f != f) = false := fun f => by simp
        have qq := And.intro b1 (And.intro b2 rn)
        have HX := Lib.hid hx
        clear hx
        go_wp2_with fail
        go_region_held3 (fun w' => w'.cell? ⟨db, 1, none⟩ = some (.int .i64 id) ∧ w'.cell? ⟨db, 2, none⟩ = some (.int .u64 p) ∧ w'.cell? ⟨r, 1, none⟩ = some (.int .u64 now)) (go_keep)
          (first
            | (go_at_call 10; rw [HX.out]; refine (wSet_o SB.out.drew 0 rfl bx).mono ?_; rintro r' w6 ⟨rfl, s6⟩; have S6 := Lib.hid s6; have q6 := And.intro (s6.blk 2 rfl).three.2.1 (And.intro (s6.blk 2 rfl).three.2.2 (rwt_cells s6 1 rfl OK.out).2); clear s6)
            | (go_at_call 11; (try rw [HX.out]); go_loud (refine (rwtSet_o S6.out 1 rfl OK.out).mono ?_); go_loud (rintro r' w7 ⟨rfl, s7⟩); have S7 := Lib.hid s7; go_loud (have q7 := And.intro (s7.blk 2 rfl).three.2.1 (And.intro (s7.blk 2 rfl).three.2.2 (rwt_cells s7 1 rfl (setT_ok OK.out id x)).2)); clear s7))
        have S8 := Lib.hid (show St w None w7 [WheelR c now (setT now T id x), RWT r now (setT now T id x), BlkR db 32 #[.int .i64 0, .int .i64 id, .int .u64 p]] from S7.out)
        clear b0 b1 b2 rn qq q6 q7 S6 S7 SB
        go_wp2_with fail
        go_meet
        exact ⟨_, _, S8.out⟩
      have z0 : (z == 0) = false := beq_eq_false_iff_ne.2 h0
      by_cases h1 : z = 1
      · subst h1
        have y : ∀ f : Int, (f != f) = false := fun f => by simp
        obtain ⟨f, hf⟩ : ∃ f : Int, (if (T id).isSome = true then 0 else 6) = f := ⟨_, rfl⟩
        have HF := Lib.hid hf
        clear hf hx
        go_wp2_with fail
        go_region_held3 (fun w' => w'.cell? ⟨db, 1, none⟩ = some (.int .i64 id)) (go_keep)
          (first
            | (go_at_call 12; refine (wCancel_o SB.out.drew 0 rfl WID.out).mono ?_; rw [HF.out]; rintro r' w6 ⟨rfl, s6⟩; have S6 := Lib.hid s6; have q6 := (s6.blk 2 rfl).three.2.1; clear s6)
            | (go_at_call 13; refine (rwtCancel_o S6.out 1 rfl OK.out).mono ?_; rw [HF.out]; rintro r' w7 ⟨rfl, s7⟩; have S7 := Lib.hid s7; have q7 := (s7.blk 2 rfl).three.2.1; clear s7))
        have S8 := Lib.hid (show St w None w7 [WheelR c now (updT T id none), RWT r now (updT T id none), BlkR db 32 #[.int .i64 1, .int .i64 id, .int .u64 p]] from S7.out)
        clear b0 b1 b2 rn q6 q7 S6 S7 SB HF
        go_wp2_with fail
        go_meet
        exact ⟨_, _, S8.out⟩
      have z1 : (z == 1) = false := beq_eq_false_iff_ne.2 h1
      by_cases h2 : z = 2
      · have z2 : (z == 2) = true := beq_iff_eq.2 h2
        have HX := Lib.hid hx
        clear h0 h1 h2 hx
        go_upto_region 22 with (fail)
        go_quiet (fail)
        rw [HX.out]
        have SG := Lib.hid (SB.out.drewN nq)
        clear b0 b1 b2 rn SB wp
        go_wp2_with fail
        refine (wGo_o SG.out 0 rfl (by assumption)).mono ?_
        rintro e w4 ⟨A4, n4, c4, o4, rfl, g4, hn4, hn5, s4⟩
        have S4 := Lib.hid s4
        have G4 := Lib.hid g4
        have HN4 := Lib.hid hn4
        clear s4 SG g4 hn4
        go_wp2_with fail
        refine (rwtGo_o S4.out 1 rfl OK.out).mono ?_
        rintro e w5 ⟨A5, n6, c5, o5, rfl, g5, hn6, s5⟩
        obtain rfl := G4.out.uniq g5
        obtain rfl : n4 = n6 := HN4.out.symm.trans hn6
        have S5 := Lib.hid (show St w None w5 [WheelR c (goN now _) (goT now T _), RWT r (goN now _) (goT now T _), BlkR db 32 #[.int .i64 z, .int .i64 id, .int .u64 p], LisR 3 1 (.slice A4 n4 c4) n4 (iv o4), LisR 3 1 (.slice A5 n4 c5) n4 (iv o4)] from s5)
        have y1 : ∀ f : Int, (f != f) = false := fun f => by simp
        clear s5 S4 g5 hn6 G4
        go_wp2_with fail
        refine (Ints_w (S5.out.lis 3 rfl) (S5.out.lis 4 rfl)).mono ?_
        rintro e w7 ⟨rfl, b7⟩
        have S8 := Lib.hid ((S5.out.stay b7).take 3)
        clear S5 b7 HN4
        go_wp2_with fail
        go_meet
        exact ⟨_, _, S8.out⟩
      have z2 : (z == 2) = false := beq_eq_false_iff_ne.2 h2
      by_cases h4 : z = 4
      · have z4 : (z == 4) = true := beq_iff_eq.2 h4
        have SG := Lib.hid SB.out
        clear h0 h1 h2 h4 bx hx x SB
        go_wp2_with fail
        refine (wGo_o SG.out 0 rfl (by assumption)).mono ?_
        rintro e w4 ⟨A4, n4, c4, o4, rfl, g4, hn4, hn5, s4⟩
        have S4 := Lib.hid s4
        have G4 := Lib.hid g4
        have HN4 := Lib.hid hn4
        clear s4 SG g4 hn4
        go_wp2_with fail
        refine (rwtGo_o S4.out 1 rfl OK.out).mono ?_
        rintro e w5 ⟨A5, n6, c5, o5, rfl, g5, hn6, s5⟩
        obtain rfl := G4.out.uniq g5
        obtain rfl : n4 = n6 := HN4.out.symm.trans hn6
        have S5 := Lib.hid (show St w None w5 [WheelR c (goN now _) (goT now T _), RWT r (goN now _) (goT now T _), BlkR db 32 #[.int .i64 z, .int .i64 id, .int .u64 p], LisR 3 1 (.slice A4 n4 c4) n4 (iv o4), LisR 3 1 (.slice A5 n4 c5) n4 (iv o4)] from s5)
        have y1 : ∀ f : Int, (f != f) = false := fun f => by simp
        clear s5 S4 g5 hn6 G4
        go_wp2_with fail
        refine (Ints_w (S5.out.lis 3 rfl) (S5.out.lis 4 rfl)).mono ?_
        rintro e w7 ⟨rfl, b7⟩
        have S8 := Lib.hid ((S5.out.stay b7).take 3)
        clear S5 b7 HN4
        go_wp2_with fail
        go_meet
        exact ⟨_, _, S8.out⟩
      have z4 : (z == 4) = false := beq_eq_false_iff_ne.2 h4
      have y : ∀ f : Int, (f != f) = false := fun f => by simp
      have qq := And.intro b1 b2
      clear hx bx x
      go_wp2_with fail
      go_region_held3 (fun w' => w'.cell? ⟨db, 1, none⟩ = some (.int .i64 id) ∧ w'.cell? ⟨db, 2, none⟩ = some (.int .u64 p)) (go_keep)
        (first
          | (go_at_call 10; refine (wSet_o SB.out.drew 0 rfl wp).mono ?_; rintro r' w6 ⟨rfl, s6⟩; have S6 := Lib.hid s6; have q6 := And.intro (s6.blk 2 rfl).three.2.1 (s6.blk 2 rfl).three.2.2; clear s6)
          | (go_at_call 11; refine (rwtSet_o S6.out 1 rfl OK.out).mono ?_; rintro r' w7 ⟨rfl, s7⟩; have S7 := Lib.hid s7; have q7 := And.intro (s7.blk 2 rfl).three.2.1 (s7.blk 2 rfl).three.2.2; clear s7))
      have S8 := Lib.hid (show St w None w7 [WheelR c now (setT now T id p), RWT r now (setT now T id p), BlkR db 32 #[.int .i64 z, .int .i64 id, .int .u64 p]] from S7.out)
      clear b0 b1 b2 rn qq q6 q7 S6 S7 SB
      go_wp2_with fail
      go_meet
      exact ⟨_, _, S8.out⟩
    case rest =>
      obtain ⟨now1, T1, s8⟩ := hcut
      clear b0 b1 b2 rn SB OK
      obtain ⟨_, ok1, -⟩ := s8.get 0 rfl
      have OK := Lib.hid ok1
      have S8 := Lib.hid s8
      obtain ⟨b0, b1, b2⟩ := (s8.blk 2 rfl).three
      clear s8 ok1 b0
      obtain ⟨v1, hv1⟩ : ∃ v, (T1 id).getD 0 = v := ⟨_, rfl⟩
      obtain ⟨v2, hv2⟩ : ∃ v : Int, (if (T1 id).isSome = true then 0 else 6) = v := ⟨_, rfl⟩
      have HV1 := Lib.hid hv1
      have HV2 := Lib.hid hv2
      clear hv1 hv2
      go_wp2_with fail
      refine (wAt_o S8.out 0 rfl WID.out).mono ?_
      rw [HV1.out, HV2.out]
      rintro e w9 ⟨rfl, s9⟩
      have S9 := Lib.hid s9
      have b3 := (s9.blk 2 rfl).three.2.1
      clear s9 S8
      go_wp2_with fail
      refine (rwtAt_o S9.out 1 rfl OK.out).mono ?_
      rw [HV1.out, HV2.out]
      rintro e w10 ⟨rfl, s10⟩
      have S10 := Lib.hid s10
      have y : ∀ f : Int, (f != f) = false := fun f => by simp
      have NC := Lib.hid (fun a => wNow_q (S10.out.drewN a) 0 rfl)
      have LC := Lib.hid (fun a => wLen_q (S10.out.drewN a) 0 rfl)
      obtain ⟨⟨A9, c9, g0⟩, g1⟩ := rwt_cells s10 1 rfl OK.out
      clear s10 S9 b1 b2 b3
      obtain ⟨m, hm⟩ : ∃ m, cnt T1 = m := ⟨_, rfl⟩
      rw [hm] at g0 LC
      have y1 : (v1 != v1) = false := by simp
      have y2 : (v2 != v2) = false := by simp
      have y3 : (now1 != now1) = false := by simp
      have y4 : ((m : Int) != (m : Int)) = false := by simp
      clear hm y
      go_wp2_with fail
      go_quiet ((first | (go_at_call 19; exact q_left (NC.out _)) | (go_at_call 20; exact q_left (LC.out _))))
      go_wp2_with fail
      go_roundw
      case rel => exact ⟨k + 1, _, _, by omega, by omega, by go_num, (S10.out.drewN _).take 2⟩
      case measure => simp [intOf]; omega

set_option maxRecDepth 100000 in
theorem lifted (os : Os) (started : os.Started) (H : Type) (enc : TypeId × Value → H) :
    ReturnsInHanded {} Try.checked os 3 .any (Rows.wheelPlaysSpec.pre6 enc Try.prog Try.f3 Rows.wheelPlaysRow.domain false) (Rows.wheelPlaysSpec.post enc Try.prog Try.f3 false true false false) := by
  refine law_lifted (C := Try.checked) (tb := 4) own started (by kernel_rfl) Try.func3
    (ChangeSpec.witness6 (enc := enc) (C := Try.checked) false ⟨#[], #[.slice none 0 0], []⟩ 8 (by kernel_rfl) (by kernel_rfl) (by kernel_rfl) (by kernel_rfl)) laid (by kernel_rfl) (by kernel_rfl) Try.underlying4 rfl ?_
  intro W base args ds ps hval0 hA0 hlt
  have hval : ∀ (j : Nat) t v, Try.f3.params[j]? = some t → args[j]? = some v → Value.okWide Try.prog W .any base t v := hval0
  have hA : DataW.TrodAll enc Try.prog W 0 (fun _ => true) true Try.f3.params.toList args.toList ds ps := hA0
  clear hA0 hval0
  rw [Try.params3] at hA hval
  obtain ⟨v0, vs0, d0, ds0, p0, q0, hargs, rfl, rfl, h0, r0⟩ := trodAll_cons hA
  obtain ⟨rfl, rfl, rfl⟩ := trodAll_nil r0
  obtain rfl : args = #[v0] := by cases args; simp_all
  obtain ⟨A0, n0, cap0, V0, rfl, le0, mx0, rd0, lf0⟩ := open_slice_spots (m := 3) (d := 20) (l := [(0, 3), (1, 3), (2, 28)]) Try.underlying22 (by kernel_rfl) (by decide) (by kernel_rfl) (hval 0 22 v0 rfl rfl) h0
  have f0_0 := fun j hj => leaf_int Try.underlying3 (lf0 0 3 (by simp) j hj)
  have f0_1 := fun j hj => leaf_int Try.underlying3 (lf0 1 3 (by simp) j hj)
  have f0_2 := fun j hj => leaf_int Try.underlying28 (lf0 2 28 (by simp) j hj)
  refine ⟨⟨rfl, rfl, rfl⟩, ?_⟩
  exact walk A0 n0 cap0 V0 W (by omega) rd0 (fun j hj => by
    obtain ⟨x0, h0, -⟩ := f0_0 j hj
    obtain ⟨x1, h1, b1⟩ := f0_1 j hj
    obtain ⟨x2, h2, b2⟩ := f0_2 j hj
    exact ⟨x0, x1, x2, h0, h1, h2, b1, (bounds_u64 b2).1⟩)

theorem over : Rows.wheelPlaysRow.holds Try.pinned (OpenSpec.ofChange Rows.wheelPlaysSpec) :=
  OpenClaim.holds_of_wide 3 Try.f3 rfl rfl rfl rfl rfl rfl rfl ⟨rfl, rfl, rfl, rfl, rfl⟩ rfl rfl rfl rfl rfl (by kernel_rfl) Try.func3 (by kernel_rfl)
    (of_decide_eq_true (by kernel_rfl)) (by unfold Func.isWrapper; first | (rw [if_pos (by decide +kernel)]; kernel_rfl) | (rw [if_neg (by decide +kernel)]; exact ⟨rfl, rfl⟩))
    (fun os started H enc _ => lifted os started H enc)
theorem proved : Rows.WheelPlaysSaid := over
#print axioms proved
end Go.Proofs.Ytklajkjmecfkpaa.wheelPlays
