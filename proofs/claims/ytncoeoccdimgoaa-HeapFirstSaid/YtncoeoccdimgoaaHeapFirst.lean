/-
  For every script HeapFirst answers true, and changes nothing: the first is never behind any other member, whatever is put, changed and dropped. No condition.
-/
import Derived.Test.YtncoeoccdimgoaaRows
import Derived.Test.YtncoeoccdimgoaaFr
import Derived.Test.YtncoeoccdimgoaaHeapB
import Derived.Deep.DeepCutAuto
import Derived.Deep.CutBlock
import Derived.Test.YtncoeoccdimgoaaOpen
import Derived.Test.YtncoeoccdimgoaaRd
namespace Go.Proofs.Ytncoeoccdimgoaa.heapFirst
open Go.ChangeShapes Go.WideShapes Go.ChangeAt Go.RowKit
set_option linter.unusedVariables false
theorem own : ownKnob Try.prog.godebug = none := by kernel_rfl
theorem laid : laidOutB Try.prog = true := by kernel_rfl
set_option maxRecDepth 100000
set_option maxHeartbeats 2000000
theorem walk (A : Option Addr) (n cap : Nat) (V : Nat → Nat → Value) (w : World) (hm : n ≤ maxLen) (rd : RdM w A n 3 V) (hV : ∀ j, j < n → ∃ z i p : Int, V j 0 = .int .i64 z ∧ V j 1 = .int .i64 i ∧ V j 2 = .int .u64 p) :
    Calls Try.prog 5 #[.slice A n cap] w fun r w' => r = .returned (.bool true) ∧ Below w.heap.size w w' := by
  unfold maxLen at hm
  have RD := Lib.hid rd
  have HV := Lib.hid hV
  clear rd hV
  go_enter Try.func5, Try.ntmps5
  go_wp2_with fail
  refine (awake_o (St.begin w)).mono ?_
  rintro r w1 ⟨rfl, s1⟩
  have N1 := Lib.hid (New_o (n := 100) s1 (by omega) (by omega))
  clear s1
  go_wp2_with fail
  refine N1.out.mono ?_
  rintro r w2 ⟨q, rfl, s2'⟩
  have S2 := Lib.hid (show St w None w2 [HeapR q 100 (fun _ => none)] from s2')
  clear s2' N1
  go_wp2_with fail
  go_loopw [5] (fun i wr => ∃ (k : Nat) (M : HM), k ≤ n ∧ k ≤ 60 ∧ i = .int .i64 k ∧ St w None wr [HeapR q 100 M]) (fun i _ => n - (intOf i).toNat)
  case atStart => exact ⟨0, _, by omega, by omega, rfl, S2.out⟩
  case round =>
    clear S2
    obtain ⟨k, M, hk, hk2, rfl, sr⟩ := hrel
    have SR := Lib.hid sr
    by_cases hkn : k < n
    case neg =>
      clear sr
      go_wp2_with fail
      go_ret
      exact ⟨rfl, SR.out.below⟩
    have t0 : decide ((k : Int) < (n : Int)) = true := decide_eq_true (by omega)
    have t0' : decide (k < n) = true := decide_eq_true hkn
    by_cases hlt2 : k < 60
    case neg =>
      have t1 : decide ((k : Int) < 60) = false := decide_eq_false (by omega)
      have t1' : decide (k < 60) = false := decide_eq_false hlt2
      clear sr hlt2 hkn hk2 hk
      go_wp2_with fail
      go_ret
      exact ⟨rfl, SR.out.below⟩
    have t1 : decide ((k : Int) < 60) = true := decide_eq_true (by omega)
    have t1' : decide (k < 60) = true := decide_eq_true hlt2
    obtain ⟨ib, off, rfl, e0, e1, e2⟩ := RD.out.at3 sr.below hkn
    obtain ⟨z, id, p, v0, v1, v2⟩ := HV.out k hkn
    rw [v0] at e0
    rw [v1] at e1
    rw [v2] at e2
    have sb : St w None (wr.alloc (.cells #[.int .i64 z, .int .i64 id, .int .u64 p] 32)) [HeapR q 100 M, BlkR wr.heap.size 32 #[.int .i64 z, .int .i64 id, .int .u64 p]] := St.box (L := [_]) sr _ _
    obtain ⟨db, hdb⟩ : ∃ db, wr.heap.size = db := ⟨_, rfl⟩
    rw [hdb] at sb
    have SB := Lib.hid sb
    obtain ⟨b0, b1, b2⟩ := (sb.blk 1 rfl).three
    clear sr sb v0 v1 v2 SR
    go_upto_if 42 with (fail)
    generalize wr.alloc (.cells #[.int .i64 z, .int .i64 id, .int .u64 p] 32) = wB at *
    clear e0 e1 e2
    go_cut [] (fun wx => ∃ (M' : HM), St w None wx [HeapR q 100 M'])
    case first =>
      by_cases h0 : z = 0
      · subst h0
        obtain ⟨f, M', hP⟩ := hputP_ex 100 M id p
        have C1 := Lib.hid (Put_o SB.out 0 rfl hP)
        clear hP SB
        go_wp2_with fail
        refine C1.out.mono ?_
        rintro r' w6 ⟨rfl, s6⟩
        have S6 := Lib.hid (show St w None w6 [HeapR q 100 M'] from s6.take 1)
        clear s6 C1 b0 b1 b2
        go_wp2_with fail
        go_meet
        exact ⟨M', S6.out⟩
      have z0 : (z == 0) = false := beq_eq_false_iff_ne.2 h0
      by_cases h1 : z = 1
      · subst h1
        obtain ⟨f, M', hP⟩ := hdropP_ex M id
        have C1 := Lib.hid (Drop_o SB.out 0 rfl hP)
        clear hP SB
        go_wp2_with fail
        refine C1.out.mono ?_
        rintro r' w6 ⟨rfl, s6⟩
        have S6 := Lib.hid (show St w None w6 [HeapR q 100 M'] from s6.take 1)
        clear s6 C1 b0 b1 b2
        go_wp2_with fail
        go_meet
        exact ⟨M', S6.out⟩
      have z1 : (z == 1) = false := beq_eq_false_iff_ne.2 h1
      have S6 := Lib.hid (show St w None wB [HeapR q 100 M] from SB.out.take 1)
      clear h0 h1 SB
      go_wp2_with fail
      go_meet
      exact ⟨M, S6.out⟩
    case rest =>
      obtain ⟨M', s7⟩ := hcut
      clear SB b0 b1 b2
      have hsup := (heap_sup s7 0 rfl).2
      obtain ⟨a, x, f, hF⟩ := fstP_ex M' 100 hsup
      have FI := Lib.hid (First_o s7 0 rfl hF)
      have FP := Lib.hid hF
      clear hF hsup s7
      go_wp2_with fail
      refine FI.out.mono ?_
      rintro r' w8 ⟨rfl, s8⟩
      have S8 := Lib.hid s8
      clear s8 FI
      go_wp2_with fail
      go_loopw [10, 11] (fun x10 i wx => ∃ m : Nat, m ≤ 100 ∧ i = .int .i64 m ∧ x10 = .int .i64 (M'.cnt m : Nat) ∧ St w None wx [HeapR q 100 M']) (fun _ i _ => 100 - (intOf i).toNat)
      case atStart => exact ⟨0, by omega, rfl, rfl, S8.out⟩
      case round =>
      clear S8
      obtain ⟨m, hm100, rfl, rfl, sx⟩ := hrel
      have SX := Lib.hid sx
      have HC := Lib.hid (show M'.cnt (m + 1) = M'.cnt m + (if (M' m).isSome = true then 1 else 0) from rfl)
      have hcm := M'.cnt_le m
      by_cases hlt3 : m < 100
      · have u1 : decide ((m : Int) < 100) = true := decide_eq_true (by omega)
        have u1' : decide (m < 100) = true := decide_eq_true hlt3
        cases hM : M' m with
        | none =>
          have KC := Lib.hid (Key_o sx 0 rfl (id := (m : Int)) (x := 0) (f := 6) (Or.inr ⟨fun i hi => by
            obtain rfl : m = i := by omega
            exact hM, rfl, rfl⟩))
          rw [hM] at HC
          clear sx hM
          generalize M'.cnt m = c at *
          go_wp2_with fail
          refine KC.out.mono ?_
          rintro r' w9 ⟨rfl, rfl⟩
          clear KC
          go_wp2_with fail
          go_roundw
          case rel => exact ⟨m + 1, by omega, by go_num, by rw [HC.out]; rfl, SX.out⟩
          case measure => simp [intOf]; omega
        | some y =>
          have KC := Lib.hid (Key_o sx 0 rfl (id := (m : Int)) (x := y) (f := 0) (Or.inl ⟨m, rfl, hM, rfl⟩))
          obtain ⟨i, rfl, rfl, hno⟩ : ∃ i : Nat, a = (i : Int) ∧ f = 0 ∧ ¬ hlt (m, y) (i, x) := by
            rcases FP.out with ⟨h, _⟩ | ⟨i, h1, h2, h3, h4⟩
            · rw [h] at hM; cases hM
            · exact ⟨i, h3, h4, h2 m y hM⟩
          rw [hM] at HC
          have y1 : decide (y < x) = false := decide_eq_false (fun h => hno (Or.inl h))
          clear sx hM
          by_cases hyx : y = x
          · have y2 : (y == x) = true := beq_iff_eq.2 hyx
            have y3 : decide ((m : Int) < (i : Int)) = false := decide_eq_false (fun h => hno (Or.inr ⟨hyx, by show m < i; omega⟩))
            have y3' : decide (m < i) = false := decide_eq_false (fun h => hno (Or.inr ⟨hyx, h⟩))
            clear hno hyx
            generalize M'.cnt m = c at *
            go_wp2_with fail
            refine KC.out.mono ?_
            rintro r' w9 ⟨rfl, rfl⟩
            clear KC
            go_wp2_with fail
            go_roundw
            case rel => exact ⟨m + 1, by omega, by go_num, by rw [HC.out]; first | rfl | simp, SX.out⟩
            case measure => simp [intOf]; omega
          · have y2 : (y == x) = false := beq_eq_false_iff_ne.2 hyx
            clear hno hyx
            generalize M'.cnt m = c at *
            go_wp2_with fail
            refine KC.out.mono ?_
            rintro r' w9 ⟨rfl, rfl⟩
            clear KC
            go_wp2_with fail
            go_roundw
            case rel => exact ⟨m + 1, by omega, by go_num, by rw [HC.out]; first | rfl | simp, SX.out⟩
            case measure => simp [intOf]; omega
      · obtain rfl : m = 100 := by omega
        have LE := Lib.hid (Len_o sx 0 rfl rfl)
        have HZ := Lib.hid (fun h => HM.cnt_zero (M := M') 100 h)
        have HSU := Lib.hid (heap_sup sx 0 rfl).2
        clear sx HC
        rcases FP.out with ⟨h, rfl, rfl, rfl⟩ | ⟨i, h1, h2, rfl, rfl⟩
        · have hc0 : M'.cnt 100 = 0 := HM.cnt_all h
          rw [hc0] at LE
          rw [hc0]
          clear h hc0 HZ FP HSU hcm
          go_wp2_with fail
          refine LE.out.mono ?_
          rintro r' w9 ⟨rfl, rfl⟩
          clear LE
          go_wp2_with fail
          go_roundw
          case rel => exact ⟨k + 1, M', by omega, by omega, by go_num, SX.out⟩
          case measure => simp [intOf]; omega
        · have hc0 : 0 < M'.cnt 100 := by
            rcases Nat.eq_zero_or_pos (M'.cnt 100) with h | h
            · by_cases hi : i < 100
              · rw [HZ.out h i hi] at h1; cases h1
              · rw [HSU.out i (by omega)] at h1; cases h1
            · exact h
          clear h1 h2 HZ FP HSU
          generalize M'.cnt 100 = c at *
          have y1 : ((c : Int) != (c : Int)) = false := by simp
          have y2 : decide (0 < (c : Int)) = true := decide_eq_true (by omega)
          have y2' : decide (0 < c) = true := decide_eq_true hc0
          go_wp2_with fail
          refine LE.out.mono ?_
          rintro r' w9 ⟨rfl, rfl⟩
          clear LE
          go_wp2_with fail
          go_roundw
          case rel => exact ⟨k + 1, M', by omega, by omega, by go_num, SX.out⟩
          case measure => simp [intOf]; omega

set_option maxRecDepth 100000 in
theorem lifted (os : Os) (started : os.Started) (H : Type) (enc : TypeId × Value → H) :
    ReturnsInHanded {} Try.checked os 5 .any (Rows.heapFirstSpec.pre6 enc Try.prog Try.f5 Rows.heapFirstRow.domain false) (Rows.heapFirstSpec.post enc Try.prog Try.f5 false true false false) := by
  refine law_lifted (C := Try.checked) (tb := 4) own started (by kernel_rfl) Try.func5
    (ChangeSpec.witness6 (enc := enc) (C := Try.checked) false ⟨#[], #[.slice none 0 0], []⟩ 8 (by kernel_rfl) (by kernel_rfl) (by kernel_rfl) (by kernel_rfl)) laid (by kernel_rfl) (by kernel_rfl) Try.underlying4 rfl ?_
  intro W base args ds ps hval0 hA0 hlt
  have hval : ∀ (j : Nat) t v, Try.f5.params[j]? = some t → args[j]? = some v → Value.okWide Try.prog W .any base t v := hval0
  have hA : DataW.TrodAll enc Try.prog W 0 (fun _ => true) true Try.f5.params.toList args.toList ds ps := hA0
  clear hA0 hval0
  rw [Try.params5] at hA hval
  obtain ⟨v0, vs0, d0, ds0, p0, q0, hargs, rfl, rfl, h0, r0⟩ := trodAll_cons hA
  obtain ⟨rfl, rfl, rfl⟩ := trodAll_nil r0
  obtain rfl : args = #[v0] := by cases args; simp_all
  obtain ⟨A0, n0, cap0, V0, rfl, le0, mx0, rd0, lf0⟩ := open_slice_spots (m := 3) (d := 20) (l := [(0, 3), (1, 3), (2, 30)]) Try.underlying22 (by kernel_rfl) (by decide) (by kernel_rfl) (hval 0 22 v0 rfl rfl) h0
  have f0_0 := fun j hj => leaf_int Try.underlying3 (lf0 0 3 (by simp) j hj)
  have f0_1 := fun j hj => leaf_int Try.underlying3 (lf0 1 3 (by simp) j hj)
  have f0_2 := fun j hj => leaf_int Try.underlying30 (lf0 2 30 (by simp) j hj)
  refine ⟨⟨rfl, rfl, rfl⟩, ?_⟩
  exact walk A0 n0 cap0 V0 W (by omega) rd0 (fun j hj => by
    obtain ⟨x0, h0, -⟩ := f0_0 j hj
    obtain ⟨x1, h1, -⟩ := f0_1 j hj
    obtain ⟨x2, h2, -⟩ := f0_2 j hj
    exact ⟨x0, x1, x2, h0, h1, h2⟩)

theorem over : Rows.heapFirstRow.holds Try.pinned (OpenSpec.ofChange Rows.heapFirstSpec) :=
  OpenClaim.holds_of_wide 5 Try.f5 rfl rfl rfl rfl rfl rfl rfl ⟨rfl, rfl, rfl, rfl, rfl⟩ rfl rfl rfl rfl rfl (by kernel_rfl) Try.func5 (by kernel_rfl)
    (of_decide_eq_true (by kernel_rfl)) (by unfold Func.isWrapper; first | (rw [if_pos (by decide +kernel)]; kernel_rfl) | (rw [if_neg (by decide +kernel)]; exact ⟨rfl, rfl⟩))
    (fun os started H enc _ => lifted os started H enc)
theorem proved : Rows.HeapFirstSaid := over
#print axioms proved
end Go.Proofs.Ytncoeoccdimgoaa.heapFirst
