/-
  For every list of keys, number and new key HeapKeys answers true, and changes nothing: a key that is made less brings its member ahead of all with greater ones; made greater, behind. No condition.
-/
import Derived.Test.YtncoeoccdimgoaaRows
import Derived.Test.YtncoeoccdimgoaaFr
import Derived.Test.YtncoeoccdimgoaaHeapB
namespace Go.Proofs.Ytncoeoccdimgoaa.heapKeys
open Go.ChangeShapes Go.WideShapes Go.ChangeAt Go.RowKit
set_option linter.unusedVariables false
theorem own : ownKnob Try.prog.godebug = none := by kernel_rfl
theorem laid : laidOutB Try.prog = true := by kernel_rfl
set_option maxRecDepth 100000
set_option maxHeartbeats 2000000
theorem walk (A : Option Addr) (n cap : Nat) (f : Nat → Int) (t0 : Int) (x0 : Int) (w : World) (hm : n ≤ maxLen) (rd : Rd w A n (fun j => .int .u64 (f j))) (hf : ∀ j, 0 ≤ f j ∧ f j ≤ 18446744073709551615) (ht : 0 ≤ t0 ∧ t0 ≤ 255) :
    Calls Try.prog 8 #[.slice A n cap, .int .u8 t0, .int .u64 x0] w fun r w' => r = .returned (.bool true) ∧ Below w.heap.size w w' := by
  unfold maxLen at hm
  have RD := Lib.hid rd
  have HF := Lib.hid hf
  clear rd hf
  have AW := Lib.hid (awake_o (St.begin w))
  obtain ⟨t, rfl⟩ : ∃ t : Nat, (t : Int) = t0 := ⟨t0.toNat, by omega⟩
  by_cases h0 : n = 0
  · subst h0
    go_enter Try.func8, Try.ntmps8
    go_wp2_with fail
    refine AW.out.mono ?_
    rintro r w1 ⟨rfl, s1⟩
    go_wp2_with fail
    go_ret
    exact ⟨rfl, s1.below⟩
  have z0 : ((n : Int) == 0) = false := beq_eq_false_iff_ne.2 (by omega)
  by_cases hbig : 100 < n
  · have d1 : decide (100 < (n : Int)) = true := decide_eq_true (by omega)
    have d1' : decide (100 < n) = true := decide_eq_true hbig
    go_enter Try.func8, Try.ntmps8
    go_wp2_with fail
    refine AW.out.mono ?_
    rintro r w1 ⟨rfl, s1⟩
    go_wp2_with fail
    go_ret
    exact ⟨rfl, s1.below⟩
  have d1 : decide (100 < (n : Int)) = false := decide_eq_false (by omega)
  have d1' : decide (100 < n) = false := decide_eq_false hbig
  have hn0 : 0 < n := by omega
  clear h0
  go_enter Try.func8, Try.ntmps8
  go_wp2_with fail
  refine AW.out.mono ?_
  rintro r w1 ⟨rfl, s1⟩
  have N1 := Lib.hid (New_o (n := 100) s1 (by omega) (by omega))
  clear s1 AW
  go_wp2_with fail
  refine N1.out.mono ?_
  rintro r w2 ⟨q, rfl, s2'⟩
  have S2 := Lib.hid (show St w None w2 [HeapR q 100 (fun _ => none)] from s2')
  clear s2' N1
  go_wp2_with fail
  go_loopw [9] (fun i wr => ∃ (k : Nat), k ≤ n ∧ i = .int .i64 k ∧ St w None wr [HeapR q 100 (memM f k)]) (fun i _ => n - (intOf i).toNat)
  case atStart => exact ⟨0, by omega, rfl, by rw [memM_zero]; exact S2.out⟩
  case round =>
  clear S2
  obtain ⟨k, hk, rfl, sr⟩ := hrel
  by_cases hkn : k < n
  · obtain ⟨ib, off, rfl, hib, hrd⟩ := RD.out (by omega)
    have e0 : wr.cell? ⟨ib, off + k, none⟩ = some (.int .u64 (f k)) := (sr.below.cell (p := ⟨ib, off + k, none⟩) hib).trans (hrd k hkn)
    have hp : HPutP 100 (memM f k) (k : Int) (f k) 0 (memM f (k + 1)) := Or.inr ⟨k, by omega, rfl, rfl, by
      rw [memM_put]; exact memM_like fun j hj => by unfold updv; split <;> simp_all⟩
    have CO := Lib.hid (Put_o sr 0 rfl hp)
    clear sr hrd hp
    generalize f k = fk at *
    go_wp2_with fail
    refine CO.out.mono ?_
    rintro r' w3 ⟨rfl, s3⟩
    have S3 := Lib.hid s3
    clear s3 CO e0
    go_wp2_with fail
    go_roundw
    case rel => exact ⟨k + 1, by omega, by go_num, S3.out⟩
    case measure => simp [intOf]; omega
  · obtain rfl : k = n := by omega
    have z1 : decide ((k : Int) < (k : Int)) = false := decide_eq_false (by omega)
    obtain ⟨a, ha⟩ : ∃ a : Nat, a = t % k := ⟨_, rfl⟩
    have hak : a < k := by rw [ha]; exact Nat.mod_lt _ hn0
    have h1 : Int.tmod (t : Int) (k : Int) = (a : Int) := by rw [Int.tmod_eq_emod_of_nonneg (by omega), ha]; exact (Int.natCast_emod t k).symm
    have h1' : (t : Int) % (k : Int) = (a : Int) := by rw [ha]; exact (Int.natCast_emod t k).symm
    have h3 : IntKind.i64.wrap (t : Int) = (t : Int) := IntWalk.i64_in _ ⟨by omega, by omega⟩
    obtain ⟨V, hV⟩ : ∃ V, V = updv f a x0 := ⟨_, rfl⟩
    have hp : HPutP 100 (memM f k) (a : Int) x0 0 (memM V k) := Or.inr ⟨a, by omega, rfl, rfl, by rw [hV, memM_old f hak x0]⟩
    have HVa := Lib.hid (show V a = x0 by rw [hV]; simp [updv])
    have HVo := Lib.hid (show ∀ j, j ≠ a → V j = f j from fun j hj => by rw [hV]; simp [updv, hj])
    have CO := Lib.hid (Put_o sr 0 rfl hp)
    clear sr hkn hp hV ha
    go_wp2_with fail
    refine CO.out.mono ?_
    rintro r' w3 ⟨rfl, s3⟩
    have S3 := Lib.hid (show St w None w3 [HeapR q 100 (memM V k)] from s3)
    clear s3 CO h1 h1' h3
    go_wp2_with fail
    go_loopw [11] (fun i wr => ∃ (m : Nat) (was : Int) (M : HM), m ≤ k ∧ i = .int .i64 m ∧ M a = some x0 ∧ HLeft V k m was M ∧ St w None wr [HeapR q 100 M]) (fun i _ => k - (intOf i).toNat)
    case atStart => exact ⟨0, -1, _, by omega, rfl, memM_some.2 ⟨hak, HVa.out.symm⟩, HLeft.begin V (by omega), S3.out⟩
    case round =>
    clear S3
    obtain ⟨m, was, M, hmk, rfl, hMa, hL, sr⟩ := hrel
    by_cases hmk2 : m < k
    · obtain ⟨i, hi, hT, hL2, -⟩ := hL.step (by omega) hmk2
      have CO := Lib.hid (Take_o sr 0 rfl hT)
      have hle : ¬ hlt (a, x0) (i, V i) := by
        rcases hT.1 with ⟨h, _⟩ | ⟨i', h1, h2, h3, _⟩
        · rw [h] at hMa; cases hMa
        · obtain rfl : i = i' := by omega
          exact h2 a x0 hMa
      by_cases hia : i = a
      · subst hia
        rw [HVa.out] at CO
        have z2 : ((i : Int) == (i : Int)) = true := beq_self_eq_true _
        have z3 : (x0 == x0) = true := beq_self_eq_true _
        have HL2 := Lib.hid hL2
        clear sr hT hL2 hL hMa hle
        go_wp2_with fail
        refine CO.out.mono ?_
        rintro r' w4 ⟨rfl, s4⟩
        obtain ⟨b, y, g, hF⟩ := fstP_ex (M.del i) 100 (heap_sup s4 0 rfl).2
        have FI := Lib.hid (First_o s4 0 rfl hF)
        clear s4 CO
        rcases hF with ⟨_, rfl, rfl, rfl⟩ | ⟨b', h1, _, rfl, rfl⟩
        · go_wp2_with fail
          refine FI.out.mono ?_
          rintro r' w5 ⟨rfl, s5⟩
          have S5 := Lib.hid s5
          clear FI s5
          go_wp2_with fail
          go_ret
          exact ⟨rfl, S5.out.below⟩
        · have hxy : x0 ≤ y := by
            rcases HL2.out.was with h | ⟨l, h, _, _, h4⟩
            · omega
            · obtain rfl : i = l := by omega
              have h5 := h4 _ _ h1
              rw [HVa.out] at h5
              unfold hlt at h5
              dsimp only at h5
              omega
          have z4 : decide (x0 ≤ y) = true := decide_eq_true hxy
          clear h1 HL2
          go_wp2_with fail
          refine FI.out.mono ?_
          rintro r' w5 ⟨rfl, s5⟩
          have S5 := Lib.hid s5
          clear FI s5
          go_wp2_with fail
          go_ret
          exact ⟨rfl, S5.out.below⟩
      · have hyx : V i ≤ x0 := by unfold hlt at hle; dsimp only at hle; omega
        have z2 : ((i : Int) == (a : Int)) = false := beq_eq_false_iff_ne.2 (by omega)
        have z2' : (i == a) = false := beq_eq_false_iff_ne.2 hia
        have z3 : decide (x0 < V i) = false := decide_eq_false (by omega)
        rw [HVo.out i hia] at z3 CO
        obtain ⟨ib, off, rfl, hib, hrd⟩ := RD.out (by omega)
        have CE := Lib.hid (fun (W : World) (K : Below w.heap.size w W) => (K.cell (p := ⟨ib, off + i, none⟩) hib).trans (hrd i hi))
        have z4 : (f i != f i) = false := by simp
        have HL2 := Lib.hid hL2
        have HMa := Lib.hid (show M.del i a = some x0 by rw [HM.del_some]; exact ⟨fun h => hia h.symm, hMa⟩)
        clear sr hT hL2 hL hMa hle hyx hrd
        go_wp2_with fail
        refine CO.out.mono ?_
        rintro r' w4 ⟨rfl, s4⟩
        have e4 := CE.out _ s4.below
        have S4 := Lib.hid s4
        clear s4 CO CE
        generalize f i = fi at *
        go_wp2_with fail
        go_roundw
        case rel => exact ⟨m + 1, (i : Int), _, by omega, by go_num, HMa.out, HL2.out, S4.out⟩
        case measure => simp [intOf]; omega
    · exfalso
      obtain rfl : m = k := by omega
      have hc := (hL.done (by omega)).2
      have := HM.cnt_zero 200 hc a (by omega)
      rw [hMa] at this; cases this

set_option maxRecDepth 100000 in
theorem lifted (os : Os) (started : os.Started) (H : Type) (enc : TypeId × Value → H) :
    ReturnsInHanded {} Try.checked os 8 .any (Rows.heapKeysSpec.pre6 enc Try.prog Try.f8 Rows.heapKeysRow.domain false) (Rows.heapKeysSpec.post enc Try.prog Try.f8 false true false false) := by
  refine law_lifted (C := Try.checked) (tb := 4) own started (by kernel_rfl) Try.func8
    (ChangeSpec.witness6 (enc := enc) (C := Try.checked) false ⟨#[], #[.slice none 0 0, .int .u8 0, .int .u64 0], []⟩ 8 (by kernel_rfl) (by kernel_rfl) (by kernel_rfl) (by kernel_rfl)) laid (by kernel_rfl) (by kernel_rfl) Try.underlying4 rfl ?_
  intro W base args ds ps hval0 hA0 hlt
  have hval : ∀ (j : Nat) t v, Try.f8.params[j]? = some t → args[j]? = some v → Value.okWide Try.prog W .any base t v := hval0
  have hA : DataW.TrodAll enc Try.prog W 0 (fun _ => true) true Try.f8.params.toList args.toList ds ps := hA0
  clear hA0 hval0
  rw [Try.params8] at hA hval
  obtain ⟨v0, vs0, d0, ds0, p0, q0, hargs, rfl, rfl, h0, r0⟩ := trodAll_cons hA
  obtain ⟨v1, vs1, d1, ds1, p1, q1, rfl, rfl, rfl, h1, r1⟩ := trodAll_cons r0
  obtain ⟨v2, vs2, d2, ds2, p2, q2, rfl, rfl, rfl, h2, r2⟩ := trodAll_cons r1
  obtain ⟨rfl, rfl, rfl⟩ := trodAll_nil r2
  obtain rfl : args = #[v0, v1, v2] := by cases args; simp_all
  obtain ⟨A0, n0, cap0, f0, rfl, le0, mx0, wf0, rd0⟩ := open_slice_ints Try.underlying42 Try.underlying30 (by kernel_rfl) (hval 0 42 v0 rfl rfl) h0
  obtain ⟨a1, rfl, rfl, rfl, w1⟩ := open_int Try.underlying5 (hval 1 5 v1 rfl rfl) h1
  obtain ⟨a2, rfl, rfl, rfl, w2⟩ := open_int Try.underlying30 (hval 2 30 v2 rfl rfl) h2
  refine ⟨⟨rfl, rfl, rfl⟩, ?_⟩
  exact walk A0 n0 cap0 f0 a1 a2 W (by omega) rd0 (fun j => bounds_u64 (wf0 j)) (bounds_u8 w1)

theorem over : Rows.heapKeysRow.holds Try.pinned (OpenSpec.ofChange Rows.heapKeysSpec) :=
  OpenClaim.holds_of_wide 8 Try.f8 rfl rfl rfl rfl rfl rfl rfl ⟨rfl, rfl, rfl, rfl, rfl⟩ rfl rfl rfl rfl rfl (by kernel_rfl) Try.func8 (by kernel_rfl)
    (of_decide_eq_true (by kernel_rfl)) (by unfold Func.isWrapper; first | (rw [if_pos (by decide +kernel)]; kernel_rfl) | (rw [if_neg (by decide +kernel)]; exact ⟨rfl, rfl⟩))
    (fun os started H enc _ => lifted os started H enc)
theorem proved : Rows.HeapKeysSaid := over
#print axioms proved
end Go.Proofs.Ytncoeoccdimgoaa.heapKeys
