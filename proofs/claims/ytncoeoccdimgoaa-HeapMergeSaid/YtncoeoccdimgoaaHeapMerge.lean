/-
  For every list of keys, and of marks, HeapMerge answers true, and changes nothing: of two heaps the members taken by turns of the lesser first are those of one with all, in the same order. No condition.
-/
import Derived.Test.YtncoeoccdimgoaaRows
import Derived.Test.YtncoeoccdimgoaaFr
import Derived.Test.YtncoeoccdimgoaaHeapK
import Derived.Deep.DeepCutAuto
namespace Go.Proofs.Ytncoeoccdimgoaa.heapMerge
open Go.ChangeShapes Go.WideShapes Go.ChangeAt Go.RowKit
set_option linter.unusedVariables false
theorem own : ownKnob Try.prog.godebug = none := by kernel_rfl
theorem laid : laidOutB Try.prog = true := by kernel_rfl
set_option maxRecDepth 100000
set_option maxHeartbeats 2000000
theorem walk (A : Option Addr) (n cap : Nat) (f : Nat → Int) (A1 : Option Addr) (n1 cap1 : Nat) (f1 : Nat → Bool) (w : World) (hm : n ≤ maxLen) (hm1 : n1 ≤ maxLen) (rd : Rd w A n (fun j => .int .u64 (f j)))
    (rd1 : Rd w A1 n1 (fun j => .bool (f1 j))) :
    Calls Try.prog 7 #[.slice A n cap, .slice A1 n1 cap1] w fun r w' => r = .returned (.bool true) ∧ Below w.heap.size w w' := by
  unfold maxLen at hm hm1
  have RD := Lib.hid rd
  have RD1 := Lib.hid rd1
  clear rd rd1
  have AW := Lib.hid (awake_o (St.begin w))
  by_cases hbig : 100 < n
  · have d1 : decide (100 < (n : Int)) = true := decide_eq_true (by omega)
    have d1' : decide (100 < n) = true := decide_eq_true hbig
    go_enter Try.func7, Try.ntmps7
    go_wp2_with fail
    refine AW.out.mono ?_
    rintro r w1 ⟨rfl, s1⟩
    go_wp2_with fail
    go_ret
    exact ⟨rfl, s1.below⟩
  have d1 : decide (100 < (n : Int)) = false := decide_eq_false (by omega)
  have d1' : decide (100 < n) = false := decide_eq_false hbig
  by_cases h0 : n1 = 0
  · subst h0
    go_enter Try.func7, Try.ntmps7
    go_wp2_with fail
    refine AW.out.mono ?_
    rintro r w1 ⟨rfl, s1⟩
    go_wp2_with fail
    go_ret
    exact ⟨rfl, s1.below⟩
  have z0 : ((n1 : Int) == 0) = false := beq_eq_false_iff_ne.2 (by omega)
  have hn0 : 0 < n1 := by omega
  clear h0
  go_enter Try.func7, Try.ntmps7
  go_wp2_with fail
  refine AW.out.mono ?_
  rintro r w1 ⟨rfl, s1⟩
  have N1 := Lib.hid (New_o (n := 100) s1 (by omega) (by omega))
  clear s1 AW
  go_wp2_with fail
  refine N1.out.mono ?_
  rintro r w2 ⟨q, rfl, s2⟩
  have N2 := Lib.hid (New_o (n := 100) s2 (by omega) (by omega))
  clear s2 N1
  go_wp2_with fail
  refine N2.out.mono ?_
  rintro r w3 ⟨q2, rfl, s3⟩
  have N3 := Lib.hid (New_o (n := 100) s3 (by omega) (by omega))
  clear s3 N2
  go_wp2_with fail
  refine N3.out.mono ?_
  rintro r w4 ⟨q3, rfl, s4⟩
  have S4 := Lib.hid (show St w None w4 [HeapR q 100 (fun _ => none), HeapR q2 100 (fun _ => none), HeapR q3 100 (fun _ => none)] from s4)
  clear s4 N3
  go_wp2_with fail
  go_loopw [11] (fun i wr => ∃ (k : Nat) (Ma Mb : HM), k ≤ n ∧ i = .int .i64 k ∧ Both Ma Mb (memM f k) ∧ St w None wr [HeapR q 100 Ma, HeapR q2 100 Mb, HeapR q3 100 (memM f k)]) (fun i _ => n - (intOf i).toNat)
  case atStart => exact ⟨0, _, _, by omega, rfl, by rw [memM_zero]; exact Both.begin, by rw [memM_zero]; exact S4.out⟩
  case round =>
  clear S4
  obtain ⟨k, Ma, Mb, hk, rfl, hB, sr⟩ := hrel
  by_cases hkn : k < n
  · obtain ⟨ib, off, rfl, hib, hrd⟩ := RD.out (by omega)
    obtain ⟨jb, jff, rfl, hjb, hjrd⟩ := RD1.out (by omega)
    obtain ⟨b, hb⟩ : ∃ b : Nat, b = k % n1 := ⟨_, rfl⟩
    have hbk : b < n1 := by rw [hb]; exact Nat.mod_lt _ hn0
    have CE := Lib.hid (fun (W : World) (K : Below w.heap.size w W) => show W.cell? ⟨ib, off + k, none⟩ = some (.int .u64 (f k)) from (K.cell (p := ⟨ib, off + k, none⟩) hib).trans (hrd k hkn))
    have e0 := CE.out _ sr.below
    have e1 : wr.cell? ⟨jb, jff + b, none⟩ = some (.bool (f1 b)) := (sr.below.cell (p := ⟨jb, jff + b, none⟩) hjb).trans (hjrd b hbk)
    have h2 : (k : Int) % (n1 : Int) = (b : Int) := by rw [hb]; exact (Int.natCast_emod k n1).symm
    have hno : memM f k k = none := by simp [memM]
    have hME := memM_put f k (f k)
    have hME2 : memM (updv f k (f k)) (k + 1) = memM f (k + 1) := memM_like fun j hj => by unfold updv; split <;> simp_all
    rw [hME2] at hME
    have BL := Lib.hid (hB.left (f k) hno)
    have BR' := Lib.hid (hB.right (f k) hno)
    rw [hME] at BL BR'
    have PA : HPutP 100 Ma (k : Int) (f k) 0 (Ma.put k (f k)) := Or.inr ⟨k, by omega, rfl, rfl, rfl⟩
    have PB : HPutP 100 Mb (k : Int) (f k) 0 (Mb.put k (f k)) := Or.inr ⟨k, by omega, rfl, rfl, rfl⟩
    have PC : HPutP 100 (memM f k) (k : Int) (f k) 0 (memM f (k + 1)) := Or.inr ⟨k, by omega, rfl, rfl, hME.symm⟩
    have CA := Lib.hid (Put_o sr 0 rfl PA)
    have CB := Lib.hid (Put_o sr 1 rfl PB)
    have PC := Lib.hid PC
    clear sr hB hno hME hME2 PA PB hb hrd hjrd
    cases hs : f1 b with
    | true =>
      rw [hs] at e1
      clear CA BL hs
      go_wp2_with fail
      refine CB.out.mono ?_
      rintro r' w5 ⟨rfl, s5⟩
      have e2 := CE.out _ s5.below
      have C2 := Lib.hid (Put_o s5 2 rfl PC.out)
      clear CB s5 e0 e1 h2
      go_wp2_with fail
      refine C2.out.mono ?_
      rintro r' w6 ⟨rfl, s6⟩
      have S6 := Lib.hid s6
      clear C2 s6 e2
      go_wp2_with fail
      go_roundw
      case rel => exact ⟨k + 1, _, _, by omega, by go_num, BR'.out, S6.out⟩
      case measure => simp [intOf]; omega
    | false =>
      rw [hs] at e1
      clear CB BR' hs
      go_wp2_with fail
      refine CA.out.mono ?_
      rintro r' w5 ⟨rfl, s5⟩
      have e2 := CE.out _ s5.below
      have C2 := Lib.hid (Put_o s5 2 rfl PC.out)
      clear CA s5 e0 e1 h2
      go_wp2_with fail
      refine C2.out.mono ?_
      rintro r' w6 ⟨rfl, s6⟩
      have S6 := Lib.hid s6
      clear C2 s6 e2
      go_wp2_with fail
      go_roundw
      case rel => exact ⟨k + 1, _, _, by omega, by go_num, BL.out, S6.out⟩
      case measure => simp [intOf]; omega
  · obtain rfl : k = n := by omega
    have z1 : decide ((k : Int) < (k : Int)) = false := decide_eq_false (by omega)
    have BB := Lib.hid hB
    have SR := Lib.hid sr
    clear sr hkn hB
    go_wp2_with fail
    go_loopw [12] (fun i wr => ∃ (m : Nat) (was : Int) (Ma Mb Mc : HM), m ≤ k ∧ i = .int .i64 m ∧ HLeft f k m was Mc ∧ Both Ma Mb Mc ∧ St w None wr [HeapR q 100 Ma, HeapR q2 100 Mb, HeapR q3 100 Mc]) (fun i _ => k - (intOf i).toNat)
    case atStart => exact ⟨0, -1, _, _, _, by omega, rfl, HLeft.begin f (by omega), BB.out, SR.out⟩
    case round =>
    clear SR BB
    obtain ⟨m, was, Ma, Mb, Mc, hmk, rfl, hL, hB, sr⟩ := hrel
    by_cases hmk2 : m < k
    · obtain ⟨i, hi, hT, hL2, -⟩ := hL.step (by omega) hmk2
      obtain ⟨a, x, fa, hA⟩ := fstP_ex Ma 100 (heap_sup sr 0 rfl).2
      obtain ⟨b, y, fb, hBf⟩ := fstP_ex Mb 100 (heap_sup sr 1 rfl).2
      have HT := Lib.hid hT
      have HL2 := Lib.hid hL2
      have HA := Lib.hid hA
      have HBf := Lib.hid hBf
      have HB := Lib.hid hB
      have FA := Lib.hid (First_o sr 0 rfl hA)
      have hMc : Mc i = some (f i) := by
        rcases hT.1 with ⟨_, _, _, h⟩ | ⟨i', h1, _, h3, _⟩
        · omega
        · obtain rfl : i = i' := by omega
          exact h1
      have HI := Lib.hid ((hB.eq i (f i)).1 hMc)
      clear sr hT hL2 hL hA hBf hB hMc
      go_wp2_with fail
      refine FA.out.mono ?_
      rintro r' w5 ⟨rfl, s5⟩
      have FB := Lib.hid (First_o s5 1 rfl HBf.out)
      clear FA s5
      go_wp2_with fail
      refine FB.out.mono ?_
      rintro r' w6 ⟨rfl, s6⟩
      have TC := Lib.hid (Take_o s6 2 rfl HT.out)
      clear FB s6
      go_wp2_with fail
      refine TC.out.mono ?_
      rintro r' w7 ⟨rfl, s7⟩
      have S7 := Lib.hid s7
      clear TC s7
      have z2 : ((i : Int) != (i : Int)) = false := by simp
      have z2' : (i != i) = false := by simp
      have z3 : (f i != f i) = false := by simp
      rcases HI.out with hs | hs
      · obtain ⟨h1, h2⟩ := HB.out.side HT.out.1 hs HBf.out
        obtain ⟨rfl, rfl, rfl⟩ := HA.out.uniq h1
        have CT := Lib.hid (Take_o S7.out 0 rfl (take_of h1))
        have HB2 := Lib.hid (HB.out.dell hs)
        clear h1 hs HI HA HBf HB HT S7
        rcases h2 with rfl | ⟨rfl, b', rfl, h2⟩
        · generalize f i = fi at *
          go_wp2_with fail
          refine CT.out.mono ?_
          rintro r' w8 ⟨rfl, s8⟩
          have S8 := Lib.hid s8
          clear CT s8
          go_wp2_with fail
          go_roundw
          case rel => exact ⟨m + 1, (i : Int), _, _, _, by omega, by go_num, HL2.out, HB2.out, S8.out⟩
          case measure => simp [intOf]; omega
        · rcases h2 with h2 | ⟨h2, h3⟩
          · have y1 : decide (f i < y) = true := decide_eq_true h2
            clear h2
            generalize f i = fi at *
            go_wp2_with fail
            refine CT.out.mono ?_
            rintro r' w8 ⟨rfl, s8⟩
            have S8 := Lib.hid s8
            clear CT s8
            go_wp2_with fail
            go_roundw
            case rel => exact ⟨m + 1, (i : Int), _, _, _, by omega, by go_num, HL2.out, HB2.out, S8.out⟩
            case measure => simp [intOf]; omega
          · have h3 : i < b' := h3
            have h2 : f i = y := h2
            have y1 : decide (f i < y) = false := decide_eq_false (by omega)
            have y2 : (f i == y) = true := beq_iff_eq.2 h2
            have y3 : decide ((i : Int) < (b' : Int)) = true := decide_eq_true (by omega)
            have y3' : decide (i < b') = true := decide_eq_true h3
            clear h2 h3
            generalize f i = fi at *
            go_wp2_with fail
            refine CT.out.mono ?_
            rintro r' w8 ⟨rfl, s8⟩
            have S8 := Lib.hid s8
            clear CT s8
            go_wp2_with fail
            go_roundw
            case rel => exact ⟨m + 1, (i : Int), _, _, _, by omega, by go_num, HL2.out, HB2.out, S8.out⟩
            case measure => simp [intOf]; omega
      · obtain ⟨h1, h2⟩ := HB.out.comm.side HT.out.1 hs HA.out
        obtain ⟨rfl, rfl, rfl⟩ := HBf.out.uniq h1
        have CT := Lib.hid (Take_o S7.out 1 rfl (take_of h1))
        have HB2 := Lib.hid (HB.out.delr hs)
        clear h1 hs HI HA HBf HB HT S7
        rcases h2 with rfl | ⟨rfl, b', rfl, h2⟩
        · generalize f i = fi at *
          go_wp2_with fail
          refine CT.out.mono ?_
          rintro r' w8 ⟨rfl, s8⟩
          have S8 := Lib.hid s8
          clear CT s8
          go_wp2_with fail
          go_roundw
          case rel => exact ⟨m + 1, (i : Int), _, _, _, by omega, by go_num, HL2.out, HB2.out, S8.out⟩
          case measure => simp [intOf]; omega
        · rcases h2 with h2 | ⟨h2, h3⟩
          · have h2 : f i < x := h2
            have y1 : decide (x < f i) = false := decide_eq_false (by omega)
            have y2 : (x == f i) = false := beq_eq_false_iff_ne.2 (by omega)
            clear h2
            generalize f i = fi at *
            go_wp2_with fail
            refine CT.out.mono ?_
            rintro r' w8 ⟨rfl, s8⟩
            have S8 := Lib.hid s8
            clear CT s8
            go_wp2_with fail
            go_roundw
            case rel => exact ⟨m + 1, (i : Int), _, _, _, by omega, by go_num, HL2.out, HB2.out, S8.out⟩
            case measure => simp [intOf]; omega
          · have h3 : i < b' := h3
            have h2 : f i = x := h2
            have y1 : decide (x < f i) = false := decide_eq_false (by omega)
            have y2 : (x == f i) = true := beq_iff_eq.2 h2.symm
            have y3 : decide ((b' : Int) < (i : Int)) = false := decide_eq_false (by omega)
            have y3' : decide (b' < i) = false := decide_eq_false (by omega)
            clear h2 h3
            generalize f i = fi at *
            go_wp2_with fail
            refine CT.out.mono ?_
            rintro r' w8 ⟨rfl, s8⟩
            have S8 := Lib.hid s8
            clear CT s8
            go_wp2_with fail
            go_roundw
            case rel => exact ⟨m + 1, (i : Int), _, _, _, by omega, by go_num, HL2.out, HB2.out, S8.out⟩
            case measure => simp [intOf]; omega
    · obtain rfl : m = k := by omega
      have hc := (hL.done (by omega))
      obtain ⟨⟨hfst, _⟩, -⟩ := hc
      have hnone : ∀ j, Mc j = none := by
        rcases hfst with ⟨h, _⟩ | ⟨i, _, _, _, h⟩
        · exact h
        · omega
      have hna : Ma.cnt 100 = 0 := HM.cnt_all fun j => by
        cases h : Ma j with
        | none => rfl
        | some z => have := (hB.eq j z).2 (Or.inl h); rw [hnone] at this; cases this
      have hnb : Mb.cnt 100 = 0 := HM.cnt_all fun j => by
        cases h : Mb j with
        | none => rfl
        | some z => have := (hB.eq j z).2 (Or.inr h); rw [hnone] at this; cases this
      have hnc : Mc.cnt 100 = 0 := HM.cnt_all hnone
      have LA := Lib.hid (Len_o sr 0 rfl hna.symm)
      have LB := Lib.hid (Len_o sr 1 rfl hnb.symm)
      have LC := Lib.hid (Len_o sr 2 rfl hnc.symm)
      have SR := Lib.hid sr
      clear hna hnb hnc hnone hfst hL hB sr
      go_wp2_with fail
      refine LA.out.mono ?_
      rintro r' w5 ⟨rfl, rfl⟩
      clear LA
      go_wp2_with fail
      refine LB.out.mono ?_
      rintro r' w6 ⟨rfl, rfl⟩
      clear LB
      go_wp2_with fail
      refine LC.out.mono ?_
      rintro r' w7 ⟨rfl, rfl⟩
      clear LC
      go_wp2_with fail
      go_ret
      exact ⟨rfl, SR.out.below⟩

set_option maxRecDepth 100000 in
theorem lifted (os : Os) (started : os.Started) (H : Type) (enc : TypeId × Value → H) :
    ReturnsInHanded {} Try.checked os 7 .any (Rows.heapMergeSpec.pre6 enc Try.prog Try.f7 Rows.heapMergeRow.domain false) (Rows.heapMergeSpec.post enc Try.prog Try.f7 false true false false) := by
  refine law_lifted (C := Try.checked) (tb := 4) own started (by kernel_rfl) Try.func7
    (ChangeSpec.witness6 (enc := enc) (C := Try.checked) false ⟨#[], #[.slice none 0 0, .slice none 0 0], []⟩ 8 (by kernel_rfl) (by kernel_rfl) (by kernel_rfl) (by kernel_rfl)) laid (by kernel_rfl) (by kernel_rfl) Try.underlying4 rfl ?_
  intro W base args ds ps hval0 hA0 hlt
  have hval : ∀ (j : Nat) t v, Try.f7.params[j]? = some t → args[j]? = some v → Value.okWide Try.prog W .any base t v := hval0
  have hA : DataW.TrodAll enc Try.prog W 0 (fun _ => true) true Try.f7.params.toList args.toList ds ps := hA0
  clear hA0 hval0
  rw [Try.params7] at hA hval
  obtain ⟨v0, vs0, d0, ds0, p0, q0, hargs, rfl, rfl, h0, r0⟩ := trodAll_cons hA
  obtain ⟨v1, vs1, d1, ds1, p1, q1, rfl, rfl, rfl, h1, r1⟩ := trodAll_cons r0
  obtain ⟨rfl, rfl, rfl⟩ := trodAll_nil r1
  obtain rfl : args = #[v0, v1] := by cases args; simp_all
  obtain ⟨A0, n0, cap0, f0, rfl, le0, mx0, wf0, rd0⟩ := open_slice_ints Try.underlying42 Try.underlying30 (by kernel_rfl) (hval 0 42 v0 rfl rfl) h0
  obtain ⟨A1, n1, cap1, f1, rfl, le1, mx1, rd1⟩ := open_slice_bools Try.underlying41 Try.underlying4 (by kernel_rfl) (hval 1 41 v1 rfl rfl) h1
  refine ⟨⟨rfl, rfl, rfl⟩, ?_⟩
  exact walk A0 n0 cap0 f0 A1 n1 cap1 f1 W (by omega) (by omega) rd0 rd1

theorem over : Rows.heapMergeRow.holds Try.pinned (OpenSpec.ofChange Rows.heapMergeSpec) :=
  OpenClaim.holds_of_wide 7 Try.f7 rfl rfl rfl rfl rfl rfl rfl ⟨rfl, rfl, rfl, rfl, rfl⟩ rfl rfl rfl rfl rfl (by kernel_rfl) Try.func7 (by kernel_rfl)
    (of_decide_eq_true (by kernel_rfl)) (by unfold Func.isWrapper; first | (rw [if_pos (by decide +kernel)]; kernel_rfl) | (rw [if_neg (by decide +kernel)]; exact ⟨rfl, rfl⟩))
    (fun os started H enc _ => lifted os started H enc)
theorem proved : Rows.HeapMergeSaid := over
#print axioms proved
end Go.Proofs.Ytncoeoccdimgoaa.heapMerge
