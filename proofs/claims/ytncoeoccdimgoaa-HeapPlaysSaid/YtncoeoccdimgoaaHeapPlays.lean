/-
  For every size and script HeapPlays answers true, and changes nothing: each answer, the first, each key, and how many there are, is what the document says. No condition.
-/
import Derived.Test.YtncoeoccdimgoaaRows
import Derived.Test.YtncoeoccdimgoaaFr
import Derived.Test.YtncoeoccdimgoaaHeapR
import Derived.Deep.DeepCutAuto
import Derived.Deep.CutBlock
import Derived.Deep.RegionHeld3
import Derived.Test.YtncoeoccdimgoaaOpen
import Derived.Test.YtncoeoccdimgoaaRd
namespace Go.Proofs.Ytncoeoccdimgoaa.heapPlays
open Go.ChangeShapes Go.WideShapes Go.ChangeAt Go.RowKit
set_option linter.unusedVariables false
theorem own : ownKnob Try.prog.godebug = none := by kernel_rfl
theorem laid : laidOutB Try.prog = true := by kernel_rfl
set_option maxRecDepth 100000
set_option maxHeartbeats 4000000
theorem walk (n0 : Int) (A : Option Addr) (n cap : Nat) (V : Nat → Nat → Value) (w : World) (hm : n ≤ maxLen) (rd : RdM w A n 3 V) (hV : ∀ j, j < n → ∃ z i p : Int, V j 0 = .int .i64 z ∧ V j 1 = .int .i64 i ∧ V j 2 = .int .u64 p) :
    Calls Try.prog 3 #[.int .i64 n0, .slice A n cap] w fun r w' => r = .returned (.bool true) ∧ Below w.heap.size w w' := by
  unfold maxLen at hm
  have RD := Lib.hid rd
  have HV := Lib.hid hV
  clear rd hV
  have AW := Lib.hid (awake_o (St.begin w))
  by_cases hz : n0 < 1 ∨ 1000 < n0
  · have HN := Lib.hid (New_no n0 hz)
    by_cases hz1 : n0 < 1
    · have d1 : decide (n0 < 1) = true := decide_eq_true hz1
      clear hz hz1
      go_enter Try.func3, Try.ntmps3
      go_wp2_with fail
      refine AW.out.mono ?_
      rintro r w1 ⟨rfl, s1⟩
      go_wp2_with fail
      refine (HN.out w1).mono ?_
      rintro r w2 ⟨rfl, rfl⟩
      go_wp2_with fail
      go_ret
      exact ⟨rfl, s1.below⟩
    · have d1 : decide (n0 < 1) = false := decide_eq_false hz1
      have d2 : decide (1000 < n0) = true := decide_eq_true (by omega)
      clear hz hz1
      go_enter Try.func3, Try.ntmps3
      go_wp2_with fail
      refine AW.out.mono ?_
      rintro r w1 ⟨rfl, s1⟩
      go_wp2_with fail
      refine (HN.out w1).mono ?_
      rintro r w2 ⟨rfl, rfl⟩
      go_wp2_with fail
      go_ret
      exact ⟨rfl, s1.below⟩
  have hz1 : 1 ≤ n0 := by omega
  have hz2 : n0 ≤ 1000 := by omega
  clear hz
  obtain ⟨s, rfl⟩ : ∃ s : Nat, (s : Int) = n0 := ⟨n0.toNat, by omega⟩
  have d1 : decide ((s : Int) < 1) = false := decide_eq_false (by omega)
  have d2 : decide (1000 < (s : Int)) = false := decide_eq_false (by omega)
  have d2' : decide (1000 < s) = false := decide_eq_false (by omega)
  have hs1 : 1 ≤ s := by omega
  have hs2 : s ≤ 1000 := by omega
  clear hz1 hz2
  go_enter Try.func3, Try.ntmps3
  go_wp2_with fail
  refine AW.out.mono ?_
  rintro r w1 ⟨rfl, s1⟩
  have N1 := Lib.hid (New_o s1 hs1 hs2)
  clear s1 AW
  go_wp2_with fail
  refine N1.out.mono ?_
  rintro r w2 ⟨q, rfl, s2⟩
  have N2 := Lib.hid (RNew_o s2 hs1 hs2)
  clear s2 N1
  go_wp2_with fail
  refine N2.out.mono ?_
  rintro r w3 ⟨r, rfl, s3⟩
  have S3 := Lib.hid (show St w None w3 [HeapR q s (fun _ => none), RHR r s (fun _ => none)] from s3)
  clear s3 N2
  go_wp2_with fail
  go_loopw [8] (fun i wr => ∃ (k : Nat) (M : HM), k ≤ n ∧ k ≤ 150 ∧ i = .int .i64 k ∧ St w None wr [HeapR q s M, RHR r s M]) (fun i _ => n - (intOf i).toNat)
  case atStart => exact ⟨0, _, by omega, by omega, rfl, S3.out⟩
  case round =>
    clear S3
    obtain ⟨k, M, hk, hk2, rfl, sr⟩ := hrel
    have SR := Lib.hid sr
    by_cases hkn : k < n
    case neg =>
      clear sr
      go_wp2_with fail
      go_ret
      exact ⟨rfl, SR.out.below⟩
    have t0 : decide ((k : Int) < (n : Int)) = true := decide_eq_true (by omega)
    have t0' : decide (k < n) = true := decide_eq_true hkn
    by_cases hkn2 : k < 150
    case neg =>
      have t1 : decide ((k : Int) < 150) = false := decide_eq_false (by omega)
      have t1' : decide (k < 150) = false := decide_eq_false hkn2
      clear sr hkn2 hkn hk2 hk
      go_wp2_with fail
      go_ret
      exact ⟨rfl, SR.out.below⟩
    have t1 : decide ((k : Int) < 150) = true := decide_eq_true (by omega)
    have t1' : decide (k < 150) = true := decide_eq_true hkn2
    obtain ⟨ib, off, rfl, e0, e1, e2⟩ := RD.out.at3 sr.below hkn
    obtain ⟨z, id, p, v0, v1, v2⟩ := HV.out k hkn
    rw [v0] at e0
    rw [v1] at e1
    rw [v2] at e2
    have sb : St w None (wr.alloc (.cells #[.int .i64 z, .int .i64 id, .int .u64 p] 32)) [HeapR q s M, RHR r s M, BlkR wr.heap.size 32 #[.int .i64 z, .int .i64 id, .int .u64 p]] := St.box (L := [_, _]) sr _ _
    obtain ⟨db, hdb⟩ : ∃ db, wr.heap.size = db := ⟨_, rfl⟩
    rw [hdb] at sb
    have SB := Lib.hid sb
    obtain ⟨b0, b1, b2⟩ := (sb.blk 2 rfl).three
    clear sr sb v0 v1 v2 SR
    go_upto_block 2 with (fail)
    generalize wr.alloc (.cells #[.int .i64 z, .int .i64 id, .int .u64 p] 32) = wB at *
    clear e0 e1 e2
    go_cut [] (fun wx => ∃ (M' : HM), St w None wx [HeapR q s M', RHR r s M', BlkR db 32 #[.int .i64 z, .int .i64 id, .int .u64 p]])
    case first =>
      by_cases h0 : z = 0
      · subst h0
        obtain ⟨f, M', hP⟩ := hputP_ex s M id p
        have HP := Lib.hid hP
        have qq := And.intro b1 b2
        have y : (f != f) = false := by simp
        clear hP
        go_wp2_with fail
        go_region_held3 (fun w' => w'.cell? ⟨db, 1, none⟩ = some (.int .i64 id) ∧ w'.cell? ⟨db, 2, none⟩ = some (.int .u64 p)) (go_keep)
          (first
            | (go_at_call 12; refine (Put_o SB.out.drew 0 rfl HP.out).mono ?_; rintro r' w6 ⟨rfl, s6⟩; have S6 := Lib.hid s6; have q6 := (s6.blk 2 rfl).three.2; clear s6)
            | (go_at_call 13; refine (RPut_o S6.out 1 rfl HP.out).mono ?_; rintro r' w7 ⟨rfl, s7⟩; have S7 := Lib.hid s7; have q7 := (s7.blk 2 rfl).three.2; clear s7))
        have S8 := Lib.hid (show St w None w7 [HeapR q s M', RHR r s M', BlkR db 32 #[.int .i64 0, .int .i64 id, .int .u64 p]] from S7.out)
        clear b0 b1 b2 qq q6 q7 S6 S7 SB HP
        go_wp2_with fail
        go_meet
        exact ⟨M', S8.out⟩
      have z0 : (z == 0) = false := beq_eq_false_iff_ne.2 h0
      by_cases h1 : z = 1
      · subst h1
        obtain ⟨f, M', hP⟩ := hdropP_ex M id
        have HP := Lib.hid hP
        have y : (f != f) = false := by simp
        clear hP
        go_wp2_with fail
        go_region_held3 (fun w' => w'.cell? ⟨db, 1, none⟩ = some (.int .i64 id)) (go_keep)
          (first
            | (go_at_call 14; refine (Drop_o SB.out.drew 0 rfl HP.out).mono ?_; rintro r' w6 ⟨rfl, s6⟩; have S6 := Lib.hid s6; have q6 := (s6.blk 2 rfl).three.2.1; clear s6)
            | (go_at_call 15; refine (RDrop_o S6.out 1 rfl HP.out).mono ?_; rintro r' w7 ⟨rfl, s7⟩; have S7 := Lib.hid s7; have q7 := (s7.blk 2 rfl).three.2.1; clear s7))
        have S8 := Lib.hid (show St w None w7 [HeapR q s M', RHR r s M', BlkR db 32 #[.int .i64 1, .int .i64 id, .int .u64 p]] from S7.out)
        clear b0 b1 b2 q6 q7 S6 S7 SB HP
        go_wp2_with fail
        go_meet
        exact ⟨M', S8.out⟩
      have z1 : (z == 1) = false := beq_eq_false_iff_ne.2 h1
      obtain ⟨a, x, f, hF⟩ := fstP_ex M s (heap_sup SB.out 0 rfl).2
      obtain ⟨M', hT⟩ := htakeP_ex hF
      have CT := Lib.hid (Take_o SB.out 0 rfl hT)
      have HF := Lib.hid hF
      have HD := Lib.hid (show ∃ f', HDropP M a f' M' from by
        rcases hT with ⟨h1, ⟨h2, h3⟩ | ⟨h2, h3⟩⟩
        · refine ⟨6, Or.inl ⟨fun i hi => ?_, rfl, h3⟩⟩
          rcases h1 with ⟨h1, _⟩ | ⟨_, _, _, _, h1⟩
          · exact h1 i
          · omega
        · rcases h1 with ⟨_, _, _, h1⟩ | ⟨i, h1, _, rfl, _⟩
          · omega
          · exact ⟨0, Or.inr ⟨i, x, rfl, h1, rfl, by rw [h3, Int.toNat_natCast]⟩⟩)
      have y1 : (a != a) = false := by simp
      have y2 : (x != x) = false := by simp
      have y3 : (f != f) = false := by simp
      clear hF hT SB
      go_wp2_with fail
      refine CT.out.mono ?_
      rintro r' w6 ⟨rfl, s6⟩
      have FR := Lib.hid (RFirst_o s6 1 rfl HF.out)
      clear CT s6
      go_wp2_with fail
      refine FR.out.mono ?_
      rintro r' w7 ⟨rfl, s7⟩
      obtain ⟨f', hD⟩ := HD.out
      have DR := Lib.hid (RDrop_o s7 1 rfl hD)
      clear FR s7 hD HD HF
      go_wp2_with fail
      refine DR.out.mono ?_
      rintro r' w8 ⟨rfl, s8⟩
      have S8 := Lib.hid (show St w None w8 [HeapR q s M', RHR r s M', BlkR db 32 #[.int .i64 z, .int .i64 id, .int .u64 p]] from s8)
      clear DR s8 b0 b1 b2
      go_wp2_with fail
      go_meet
      exact ⟨M', S8.out⟩
    case rest =>
      obtain ⟨M', s8⟩ := hcut
      clear b0 b1 b2 SB
      obtain ⟨a, x, f, hF⟩ := fstP_ex M' s (heap_sup s8 0 rfl).2
      obtain ⟨y, g, hK⟩ := keyP_ex s M' id
      have FI := Lib.hid (First_o s8 0 rfl hF)
      have HF := Lib.hid hF
      have HK := Lib.hid hK
      clear hF hK s8
      go_wp2_with fail
      refine FI.out.mono ?_
      rintro r' w9 ⟨rfl, s9⟩
      have FR := Lib.hid (RFirst_o s9 1 rfl HF.out)
      clear FI s9 HF
      go_wp2_with fail
      refine FR.out.mono ?_
      rintro r' w10 ⟨rfl, s10⟩
      have KC := Lib.hid (Key_o s10 0 rfl HK.out)
      obtain ⟨b0, b1, b2⟩ := (s10.blk 2 rfl).three
      have S10 := Lib.hid s10
      clear s10 FR
      go_wp2_with fail
      refine KC.out.mono ?_
      rintro r' w11 ⟨rfl, rfl⟩
      clear KC
      have y1 : (a != a) = false := by simp
      have y2 : (x != x) = false := by simp
      have y3 : (f != f) = false := by simp
      obtain ⟨c, hc⟩ : ∃ c, c = M'.cnt s := ⟨_, rfl⟩
      have y4 : ((c : Int) != (c : Int)) = false := by simp
      have LC := Lib.hid (fun a => Len_o (S10.out.drewN a) 0 rfl hc)
      have LR := Lib.hid (fun a => by
        obtain ⟨T, hT⟩ := (S10.out.drewN a).get 1 rfl
        exact RLen_c hT hc)
      have IS := Lib.hid (fun a b (hb : b = isM M' id) => by
        obtain ⟨T, hT⟩ := (S10.out.drewN a).get 1 rfl
        exact Is_c hT id hb)
      clear hc
      rcases HK.out with ⟨i, rfl, hMi, rfl⟩ | ⟨hMi, rfl, rfl⟩
      · have IT := Lib.hid (fun a => IS.out a true (by simp [isM, hMi]))
        obtain ⟨T, ib2, kb, K, hk3, hs⟩ := S10.out.get 1 rfl
        have sT := St.start hs
        have hi := (hk3.2 i y hMi).1
        obtain ⟨g0, g1⟩ := (sT.blk 0 rfl).two
        have g2 := sT.arr_cell 2 rfl hi
        rw [(hk3.2 i y hMi).2] at g2
        have y5 : (y != y) = false := by simp
        have i0 : (0 : Int) ≤ (i : Int) := by omega
        have i1 : (i : Int) < (s : Int) := by omega
        clear sT hs hk3 hMi IS HK
        go_wp2_with fail
        go_quiet ((first | (go_at_call 20; exact q_left (LC.out _)) | (go_at_call 21; exact q_left (LR.out _)) | (go_at_call 22; exact q_left (IT.out _))))
        go_wp2_with fail
        go_roundw
        case rel => exact ⟨k + 1, M', by omega, by omega, by go_num, (S10.out.drewN _).take 2⟩
        case measure => simp [intOf]; omega
      · have IT := Lib.hid (fun a => IS.out a false (by
          by_cases h0 : 0 ≤ id
          · simp [isM, h0, hMi id.toNat (by omega)]
          · simp [isM, h0]))
        clear hMi IS HK
        go_wp2_with fail
        go_quiet ((first | (go_at_call 20; exact q_left (LC.out _)) | (go_at_call 21; exact q_left (LR.out _)) | (go_at_call 22; exact q_left (IT.out _))))
        go_wp2_with fail
        go_roundw
        case rel => exact ⟨k + 1, M', by omega, by omega, by go_num, (S10.out.drewN _).take 2⟩
        case measure => simp [intOf]; omega

set_option maxRecDepth 100000 in
theorem lifted (os : Os) (started : os.Started) (H : Type) (enc : TypeId × Value → H) :
    ReturnsInHanded {} Try.checked os 3 .any (Rows.heapPlaysSpec.pre6 enc Try.prog Try.f3 Rows.heapPlaysRow.domain false) (Rows.heapPlaysSpec.post enc Try.prog Try.f3 false true false false) := by
  refine law_lifted (C := Try.checked) (tb := 4) own started (by kernel_rfl) Try.func3
    (ChangeSpec.witness6 (enc := enc) (C := Try.checked) false ⟨#[], #[.int .i64 0, .slice none 0 0], []⟩ 8 (by kernel_rfl) (by kernel_rfl) (by kernel_rfl) (by kernel_rfl)) laid (by kernel_rfl) (by kernel_rfl) Try.underlying4 rfl ?_
  intro W base args ds ps hval0 hA0 hlt
  have hval : ∀ (j : Nat) t v, Try.f3.params[j]? = some t → args[j]? = some v → Value.okWide Try.prog W .any base t v := hval0
  have hA : DataW.TrodAll enc Try.prog W 0 (fun _ => true) true Try.f3.params.toList args.toList ds ps := hA0
  clear hA0 hval0
  rw [Try.params3] at hA hval
  obtain ⟨v0, vs0, d0, ds0, p0, q0, hargs, rfl, rfl, h0, r0⟩ := trodAll_cons hA
  obtain ⟨v1, vs1, d1, ds1, p1, q1, rfl, rfl, rfl, h1, r1⟩ := trodAll_cons r0
  obtain ⟨rfl, rfl, rfl⟩ := trodAll_nil r1
  obtain rfl : args = #[v0, v1] := by cases args; simp_all
  obtain ⟨a0, rfl, rfl, rfl, w0⟩ := open_int Try.underlying3 (hval 0 3 v0 rfl rfl) h0
  obtain ⟨A1, n1, cap1, V1, rfl, le1, mx1, rd1, lf1⟩ := open_slice_spots (m := 3) (d := 20) (l := [(0, 3), (1, 3), (2, 30)]) Try.underlying22 (by kernel_rfl) (by decide) (by kernel_rfl) (hval 1 22 v1 rfl rfl) h1
  have f1_0 := fun j hj => leaf_int Try.underlying3 (lf1 0 3 (by simp) j hj)
  have f1_1 := fun j hj => leaf_int Try.underlying3 (lf1 1 3 (by simp) j hj)
  have f1_2 := fun j hj => leaf_int Try.underlying30 (lf1 2 30 (by simp) j hj)
  refine ⟨⟨rfl, rfl, rfl⟩, ?_⟩
  exact walk a0 A1 n1 cap1 V1 W (by omega) rd1 (fun j hj => by
    obtain ⟨x0, h0, -⟩ := f1_0 j hj
    obtain ⟨x1, h1, -⟩ := f1_1 j hj
    obtain ⟨x2, h2, -⟩ := f1_2 j hj
    exact ⟨x0, x1, x2, h0, h1, h2⟩)

theorem over : Rows.heapPlaysRow.holds Try.pinned (OpenSpec.ofChange Rows.heapPlaysSpec) :=
  OpenClaim.holds_of_wide 3 Try.f3 rfl rfl rfl rfl rfl rfl rfl ⟨rfl, rfl, rfl, rfl, rfl⟩ rfl rfl rfl rfl rfl (by kernel_rfl) Try.func3 (by kernel_rfl)
    (of_decide_eq_true (by kernel_rfl)) (by unfold Func.isWrapper; first | (rw [if_pos (by decide +kernel)]; kernel_rfl) | (rw [if_neg (by decide +kernel)]; exact ⟨rfl, rfl⟩))
    (fun os started H enc _ => lifted os started H enc)
theorem proved : Rows.HeapPlaysSaid := over
#print axioms proved
end Go.Proofs.Ytncoeoccdimgoaa.heapPlays
