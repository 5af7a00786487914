/-
  For every list of keys, and of which are put again, HeapSorts answers true, and changes nothing: taken one by one, members come by rising keys, alike ones by rising numbers, each once. No condition.
-/
import Derived.Test.YtncoeoccdimgoaaRows
import Derived.Test.YtncoeoccdimgoaaFr
import Derived.Test.YtncoeoccdimgoaaHeapB
namespace Go.Proofs.Ytncoeoccdimgoaa.heapSorts
open Go.ChangeShapes Go.WideShapes Go.ChangeAt Go.RowKit
set_option linter.unusedVariables false
theorem own : ownKnob Try.prog.godebug = none := by kernel_rfl
theorem laid : laidOutB Try.prog = true := by kernel_rfl
set_option maxRecDepth 100000
set_option maxHeartbeats 2000000
theorem infoU : (Try.prog.info? 30).map (fun i => (i.zero, i.size, i.bytes)) = some (some (.int .u64 0), 1, 8) := by kernel_rfl
theorem walk (A : Option Addr) (n cap : Nat) (f : Nat → Int) (A1 : Option Addr) (n1 cap1 : Nat) (f1 : Nat → Int) (w : World) (hm : n ≤ maxLen) (hm1 : n1 ≤ maxLen) (rd : Rd w A n (fun j => .int .u64 (f j))) (hf : ∀ j, 0 ≤ f j ∧ f j ≤ 18446744073709551615)
    (rd1 : Rd w A1 n1 (fun j => .int .u8 (f1 j))) (hf1 : ∀ j, 0 ≤ f1 j ∧ f1 j ≤ 255) :
    Calls Try.prog 4 #[.slice A n cap, .slice A1 n1 cap1] w fun r w' => r = .returned (.bool true) ∧ Below w.heap.size w w' := by
  unfold maxLen at hm hm1
  have RD := Lib.hid rd
  have HF := Lib.hid hf
  have RD1 := Lib.hid rd1
  have HF1 := Lib.hid hf1
  clear rd hf rd1 hf1
  have AW := Lib.hid (awake_o (St.begin w))
  by_cases hbig : 200 < n
  · have d1 : decide (200 < (n : Int)) = true := decide_eq_true (by omega)
    have d1' : decide (200 < n) = true := decide_eq_true hbig
    go_enter Try.func4, Try.ntmps4
    go_wp2_with fail
    refine AW.out.mono ?_
    rintro r w1 ⟨rfl, s1⟩
    go_wp2_with fail
    go_ret
    exact ⟨rfl, s1.below⟩
  have d1 : decide (200 < (n : Int)) = false := decide_eq_false (by omega)
  have d1' : decide (200 < n) = false := decide_eq_false hbig
  by_cases hbig1 : 200 < n1
  · have d2 : decide (200 < (n1 : Int)) = true := decide_eq_true (by omega)
    have d2' : decide (200 < n1) = true := decide_eq_true hbig1
    go_enter Try.func4, Try.ntmps4
    go_wp2_with fail
    refine AW.out.mono ?_
    rintro r w1 ⟨rfl, s1⟩
    go_wp2_with fail
    go_ret
    exact ⟨rfl, s1.below⟩
  have d2 : decide (200 < (n1 : Int)) = false := decide_eq_false (by omega)
  have d2' : decide (200 < n1) = false := decide_eq_false hbig1
  obtain ⟨iU, hiU, hzU, hsU, hbU⟩ := info3h infoU
  have mk : ∀ W : World, (Instr.makeSlice 42 (.int .i64 200) (.int .i64 200)).run Try.prog W = .ok (.slice (some ⟨W.heap.size, 0, none⟩) 200 200) (W.alloc (.cells (madeCells #[.int .u64 0] 200) 30)) := fun W => run_make_rowN (P := Try.prog) 42 30 iU (.int .u64 0) Try.underlying42 hiU hzU rfl hsU .i64 .i64 200 (by rw [hbU]; omega) (by omega) W
  go_enter Try.func4, Try.ntmps4
  go_wp2_with fail
  refine AW.out.mono ?_
  rintro r w1 ⟨rfl, s1⟩
  have N1 := Lib.hid (New_o (n := 200) s1 (by omega) (by omega))
  clear s1 AW
  go_wp2_with fail
  refine N1.out.mono ?_
  rintro r w2 ⟨q, rfl, s2'⟩
  have s2 : St w None w2 [HeapR q 200 (fun _ => none)] := s2'
  have s3 := s2.made_row 30 200 (.int .u64 0)
  have S3 := Lib.hid s3
  clear s2 s2' s3 N1
  go_wp2_with fail
  clear mk
  generalize w2.heap.size = g at *
  go_loopw [8] (fun i wr => ∃ (k : Nat) (V : Nat → Int), k ≤ n ∧ i = .int .i64 k ∧ (∀ j, 0 ≤ V j ∧ V j ≤ 18446744073709551615) ∧ St w None wr [HeapR q 200 (memM V k), ArrR g 30 200 (fun j => .int .u64 (V j))]) (fun i _ => n - (intOf i).toNat)
  case atStart => exact ⟨0, fun _ => 0, by omega, rfl, fun _ => by dsimp only; omega, by rw [memM_zero]; exact S3.out⟩
  case round =>
  clear S3
  obtain ⟨k, V, hk, rfl, hV, sr⟩ := hrel
  have HV := Lib.hid hV
  clear hV
  by_cases hlt : k < n
  · obtain ⟨ib, off, rfl, hib, hrd⟩ := RD.out (by omega)
    have e0 : wr.cell? ⟨ib, off + k, none⟩ = some (.int .u64 (f k)) := (sr.below.cell (p := ⟨ib, off + k, none⟩) hib).trans (hrd k hlt)
    have CE := Lib.hid (fun (W : World) (K : Below w.heap.size w W) => (K.cell (p := ⟨ib, off + k, none⟩) hib).trans (hrd k hlt))
    have hp : HPutP 200 (memM V k) (k : Int) (f k) 0 (memM (updv V k (f k)) (k + 1)) := Or.inr ⟨k, by omega, rfl, rfl, (memM_put V k (f k)).symm⟩
    have CO := Lib.hid (Put_o sr 0 rfl hp)
    have HV2 := Lib.hid (show ∀ j, 0 ≤ updv V k (f k) j ∧ updv V k (f k) j ≤ 18446744073709551615 from fun j => by
      unfold updv; split
      · exact HF.out k
      · exact HV.out j)
    clear sr hrd hp
    go_wp2_with fail
    refine CO.out.mono ?_
    rintro r' w3 ⟨rfl, s3'⟩
    have s3 : St w None w3 [HeapR q 200 (memM (updv V k (f k)) (k + 1)), ArrR g 30 200 (fun j => .int .u64 (V j))] := s3'
    have e3 := CE.out _ s3.below
    have e4 := s3.arr_cell 1 rfl (k := k) (by omega)
    have e5 := s3.arr_frozen 1 rfl k
    have s4 := (s3.arr_set 1 rfl (k := k) (by omega) (.int .u64 (f k))).arr_like 1 rfl (V' := fun j => .int .u64 (updv V k (f k) j)) (fun j hj => by by_cases e : j = k <;> simp [updv, e])
    have S4 := Lib.hid s4
    clear s3' s3 s4 CO CE e0
    generalize f k = fk at *
    go_wp2_with fail
    go_roundw
    case rel => exact ⟨k + 1, _, by omega, by go_num, HV2.out, S4.out⟩
    case measure => simp [intOf]; omega
  · obtain rfl : k = n := by omega
    have z1 : decide ((k : Int) < (k : Int)) = false := decide_eq_false (by omega)
    have SR := Lib.hid sr
    clear sr hlt
    go_wp2_with fail
    go_loopw [9, 10] (fun i x10 wr => ∃ (m : Nat) (V : Nat → Int), m ≤ n1 ∧ i = .int .i64 m ∧ (∀ j, 0 ≤ V j ∧ V j ≤ 18446744073709551615) ∧ St w None wr [HeapR q 200 (memM V k), ArrR g 30 200 (fun j => .int .u64 (V j))]) (fun i _ _ => n1 - (intOf i).toNat)
    case atStart => exact ⟨0, V, by omega, rfl, HV.out, SR.out⟩
    case round =>
    clear SR HV V
    obtain ⟨m, V, hmn, rfl, hV, sr⟩ := hrel
    have HV := Lib.hid hV
    clear hV
    by_cases hlt : m < n1 ∧ 0 < k
    · obtain ⟨hlt, hk0⟩ := hlt
      obtain ⟨ib, off, rfl, hib, hrd⟩ := RD1.out (by omega)
      obtain ⟨jb, jff, rfl, hjb, hjrd⟩ := RD.out (by omega)
      have hx := HF1.out m
      obtain ⟨t, ht⟩ : ∃ t : Nat, (t : Int) = f1 m := ⟨(f1 m).toNat, by omega⟩
      obtain ⟨a, ha⟩ : ∃ a : Nat, a = t % k := ⟨_, rfl⟩
      obtain ⟨b, hb⟩ : ∃ b : Nat, b = m % k := ⟨_, rfl⟩
      have hak : a < k := by rw [ha]; exact Nat.mod_lt _ hk0
      have hbk : b < k := by rw [hb]; exact Nat.mod_lt _ hk0
      have e0 : wr.cell? ⟨ib, off + m, none⟩ = some (.int .u8 (t : Int)) := by rw [ht]; exact (sr.below.cell (p := ⟨ib, off + m, none⟩) hib).trans (hrd m hlt)
      have e1 : wr.cell? ⟨jb, jff + b, none⟩ = some (.int .u64 (f b)) := (sr.below.cell (p := ⟨jb, jff + b, none⟩) hjb).trans (hjrd b hbk)
      have e2 := sr.arr_cell 1 rfl (k := a) (by omega)
      have e3 := sr.arr_frozen 1 rfl a
      have hfb := HF.out b
      have h1 : Int.tmod (t : Int) (k : Int) = (a : Int) := by rw [Int.tmod_eq_emod_of_nonneg (by omega), ha]; exact (Int.natCast_emod t k).symm
      have h1' : (t : Int) % (k : Int) = (a : Int) := by rw [ha]; exact (Int.natCast_emod t k).symm
      have h2 : (m : Int) % (k : Int) = (b : Int) := by rw [hb]; exact (Int.natCast_emod m k).symm
      have h3 : IntKind.i64.wrap (t : Int) = (t : Int) := IntWalk.i64_in _ ⟨by omega, by omega⟩
      have hp : HPutP 200 (memM V k) (a : Int) (f b / 2) 0 (memM (updv V a (f b / 2)) k) := Or.inr ⟨a, by omega, rfl, rfl, (memM_old V hak (f b / 2)).symm⟩
      have s3 := (sr.arr_set 1 rfl (k := a) (by omega) (.int .u64 (f b / 2))).arr_like 1 rfl (V' := fun j => .int .u64 (updv V a (f b / 2) j)) (fun j hj => by by_cases e : j = a <;> simp [updv, e])
      have CO := Lib.hid (Put_o s3 0 rfl hp)
      have e4 := s3.arr_cell 1 rfl (k := a) (by omega)
      have HV2 := Lib.hid (show ∀ j, 0 ≤ updv V a (f b / 2) j ∧ updv V a (f b / 2) j ≤ 18446744073709551615 from fun j => by
        unfold updv; split
        · omega
        · exact HV.out j)
      rw [show updv V a (f b / 2) a = f b / 2 by simp [updv]] at e4
      clear sr hrd hjrd hp s3 ht ha hb hx
      generalize f b = fb at *
      go_wp2_with fail
      refine CO.out.mono ?_
      rintro r' w3 ⟨rfl, s4⟩
      have S4 := Lib.hid s4
      clear s4 CO h1 h1' h2
      go_wp2_with fail
      go_roundw
      case rel => exact ⟨m + 1, _, by omega, by go_num, HV2.out, S4.out⟩
      case measure => simp [intOf]; omega
    · have HL := Lib.hid (HLeft.begin V (show k ≤ 200 by omega))
      have SR := Lib.hid sr
      clear sr
      by_cases hlt2 : m < n1
      · have y2 : decide (0 < (k : Int)) = false := decide_eq_false (by omega)
        have y2' : decide (0 < k) = false := decide_eq_false (by omega)
        have y1 : decide ((m : Int) < (n1 : Int)) = true := decide_eq_true (by omega)
        have y1' : decide (m < n1) = true := decide_eq_true hlt2
        clear hlt
        have HK := Lib.hid (show k ≤ 200 by omega)
        go_wp2_with fail
        go_loopw [11, 12] (fun x11 i wr => ∃ (m : Nat) (was : Int) (M : HM), m ≤ k ∧ i = .int .i64 m ∧ x11 = .int .i64 was ∧ HLeft V k m was M ∧ St w None wr [HeapR q 200 M, ArrR g 30 200 (fun j => .int .u64 (V j))]) (fun _ i _ => k - (intOf i).toNat)
        case atStart => exact ⟨0, -1, memM V k, by omega, rfl, rfl, HL.out, SR.out⟩
        case round =>
        clear HL SR
        obtain ⟨m2, was, M, hmk, rfl, rfl, hL, sr⟩ := hrel
        by_cases hlt : m2 < k
        · obtain ⟨i, hi, hT, hL2, hw⟩ := hL.step HK.out hlt
          have CO := Lib.hid (Take_o sr 0 rfl hT)
          have HL2 := Lib.hid hL2
          have hv1 := HV.out i
          have a1 : decide ((i : Int) < 0) = false := decide_eq_false (by omega)
          have a2 : decide ((k : Int) ≤ (i : Int)) = false := decide_eq_false (by omega)
          have a2' : decide (k ≤ i) = false := decide_eq_false (by omega)
          have i0 : (0 : Int) ≤ (i : Int) := by omega
          clear sr hT hL2 hL
          go_wp2_with fail
          refine CO.out.mono ?_
          rintro r' w3 ⟨rfl, s3'⟩
          have s3 : St w None w3 [HeapR q 200 (M.del i), ArrR g 30 200 (fun j => .int .u64 (V j))] := s3'
          have e3 := s3.arr_cell 1 rfl (k := i) (by omega)
          have z3 : (V i != V i) = false := by simp
          rcases hw with rfl | ⟨l, rfl, hl, hlx⟩
          · have S3 := Lib.hid s3
            clear s3 s3' CO
            generalize V i = vi at *
            go_wp2_with fail
            go_roundw
            case rel => exact ⟨m2 + 1, i, _, by omega, by go_num, rfl, HL2.out, S3.out⟩
            case measure => simp [intOf]; omega
          · have e4 := s3.arr_cell 1 rfl (k := l) (by omega)
            have S3 := Lib.hid s3
            have l0 : decide ((0 : Int) ≤ (l : Int)) = true := decide_eq_true (by omega)
            have l1 : (0 : Int) ≤ (l : Int) := by omega
            have l2 : (l : Int) < 200 := by omega
            clear s3 s3' CO
            rcases hlx with h | ⟨h, h2⟩
            · have p1 : decide (V i < V l) = false := decide_eq_false (by have h : V l < V i := h; omega)
              have p2 : (V l == V i) = false := beq_eq_false_iff_ne.2 (by have h : V l < V i := h; omega)
              clear h
              generalize V i = vi at *
              generalize V l = vl at *
              go_wp2_with fail
              go_roundw
              case rel => exact ⟨m2 + 1, i, _, by omega, by go_num, rfl, HL2.out, S3.out⟩
              case measure => simp [intOf]; omega
            · have h2 : l < i := h2
              have p1 : decide (V i < V l) = false := decide_eq_false (by have h : V l = V i := h; omega)
              have p2 : (V l == V i) = true := beq_iff_eq.2 h
              have p3 : decide ((i : Int) ≤ (l : Int)) = false := decide_eq_false (by omega)
              have p3' : decide (i ≤ l) = false := decide_eq_false (by omega)
              clear h
              generalize V i = vi at *
              generalize V l = vl at *
              go_wp2_with fail
              go_roundw
              case rel => exact ⟨m2 + 1, i, _, by omega, by go_num, rfl, HL2.out, S3.out⟩
              case measure => simp [intOf]; omega
        · obtain rfl : m2 = k := by omega
          obtain ⟨hT, hc⟩ := hL.done HK.out
          have CO := Lib.hid (Take_o sr 0 rfl hT)
          have HC := Lib.hid hc.symm
          clear sr hL hc hT
          go_wp2_with fail
          refine CO.out.mono ?_
          rintro r' w3 ⟨rfl, s3⟩
          have LE := Lib.hid (Len_o s3 0 rfl HC.out)
          have S3 := Lib.hid s3
          clear s3 CO
          go_wp2_with fail
          refine LE.out.mono ?_
          rintro r' w4 ⟨rfl, rfl⟩
          go_wp2_with fail
          go_ret
          exact ⟨rfl, S3.out.below⟩
      · have y1 : decide ((m : Int) < (n1 : Int)) = false := decide_eq_false (by omega)
        have y1' : decide (m < n1) = false := decide_eq_false hlt2
        clear hlt
        have HK := Lib.hid (show k ≤ 200 by omega)
        go_wp2_with fail
        go_loopw [11, 12] (fun x11 i wr => ∃ (m : Nat) (was : Int) (M : HM), m ≤ k ∧ i = .int .i64 m ∧ x11 = .int .i64 was ∧ HLeft V k m was M ∧ St w None wr [HeapR q 200 M, ArrR g 30 200 (fun j => .int .u64 (V j))]) (fun _ i _ => k - (intOf i).toNat)
        case atStart => exact ⟨0, -1, memM V k, by omega, rfl, rfl, HL.out, SR.out⟩
        case round =>
        clear HL SR
        obtain ⟨m2, was, M, hmk, rfl, rfl, hL, sr⟩ := hrel
        by_cases hlt : m2 < k
        · obtain ⟨i, hi, hT, hL2, hw⟩ := hL.step HK.out hlt
          have CO := Lib.hid (Take_o sr 0 rfl hT)
          have HL2 := Lib.hid hL2
          have hv1 := HV.out i
          have a1 : decide ((i : Int) < 0) = false := decide_eq_false (by omega)
          have a2 : decide ((k : Int) ≤ (i : Int)) = false := decide_eq_false (by omega)
          have a2' : decide (k ≤ i) = false := decide_eq_false (by omega)
          have i0 : (0 : Int) ≤ (i : Int) := by omega
          clear sr hT hL2 hL
          go_wp2_with fail
          refine CO.out.mono ?_
          rintro r' w3 ⟨rfl, s3'⟩
          have s3 : St w None w3 [HeapR q 200 (M.del i), ArrR g 30 200 (fun j => .int .u64 (V j))] := s3'
          have e3 := s3.arr_cell 1 rfl (k := i) (by omega)
          have z3 : (V i != V i) = false := by simp
          rcases hw with rfl | ⟨l, rfl, hl, hlx⟩
          · have S3 := Lib.hid s3
            clear s3 s3' CO
            generalize V i = vi at *
            go_wp2_with fail
            go_roundw
            case rel => exact ⟨m2 + 1, i, _, by omega, by go_num, rfl, HL2.out, S3.out⟩
            case measure => simp [intOf]; omega
          · have e4 := s3.arr_cell 1 rfl (k := l) (by omega)
            have S3 := Lib.hid s3
            have l0 : decide ((0 : Int) ≤ (l : Int)) = true := decide_eq_true (by omega)
            have l1 : (0 : Int) ≤ (l : Int) := by omega
            have l2 : (l : Int) < 200 := by omega
            clear s3 s3' CO
            rcases hlx with h | ⟨h, h2⟩
            · have p1 : decide (V i < V l) = false := decide_eq_false (by have h : V l < V i := h; omega)
              have p2 : (V l == V i) = false := beq_eq_false_iff_ne.2 (by have h : V l < V i := h; omega)
              clear h
              generalize V i = vi at *
              generalize V l = vl at *
              go_wp2_with fail
              go_roundw
              case rel => exact ⟨m2 + 1, i, _, by omega, by go_num, rfl, HL2.out, S3.out⟩
              case measure => simp [intOf]; omega
            · have h2 : l < i := h2
              have p1 : decide (V i < V l) = false := decide_eq_false (by have h : V l = V i := h; omega)
              have p2 : (V l == V i) = true := beq_iff_eq.2 h
              have p3 : decide ((i : Int) ≤ (l : Int)) = false := decide_eq_false (by omega)
              have p3' : decide (i ≤ l) = false := decide_eq_false (by omega)
              clear h
              generalize V i = vi at *
              generalize V l = vl at *
              go_wp2_with fail
              go_roundw
              case rel => exact ⟨m2 + 1, i, _, by omega, by go_num, rfl, HL2.out, S3.out⟩
              case measure => simp [intOf]; omega
        · obtain rfl : m2 = k := by omega
          obtain ⟨hT, hc⟩ := hL.done HK.out
          have CO := Lib.hid (Take_o sr 0 rfl hT)
          have HC := Lib.hid hc.symm
          clear sr hL hc hT
          go_wp2_with fail
          refine CO.out.mono ?_
          rintro r' w3 ⟨rfl, s3⟩
          have LE := Lib.hid (Len_o s3 0 rfl HC.out)
          have S3 := Lib.hid s3
          clear s3 CO
          go_wp2_with fail
          refine LE.out.mono ?_
          rintro r' w4 ⟨rfl, rfl⟩
          go_wp2_with fail
          go_ret
          exact ⟨rfl, S3.out.below⟩

set_option maxRecDepth 100000 in
theorem lifted (os : Os) (started : os.Started) (H : Type) (enc : TypeId × Value → H) :
    ReturnsInHanded {} Try.checked os 4 .any (Rows.heapSortsSpec.pre6 enc Try.prog Try.f4 Rows.heapSortsRow.domain false) (Rows.heapSortsSpec.post enc Try.prog Try.f4 false true false false) := by
  refine law_lifted (C := Try.checked) (tb := 4) own started (by kernel_rfl) Try.func4
    (ChangeSpec.witness6 (enc := enc) (C := Try.checked) false ⟨#[], #[.slice none 0 0, .slice none 0 0], []⟩ 8 (by kernel_rfl) (by kernel_rfl) (by kernel_rfl) (by kernel_rfl)) laid (by kernel_rfl) (by kernel_rfl) Try.underlying4 rfl ?_
  intro W base args ds ps hval0 hA0 hlt
  have hval : ∀ (j : Nat) t v, Try.f4.params[j]? = some t → args[j]? = some v → Value.okWide Try.prog W .any base t v := hval0
  have hA : DataW.TrodAll enc Try.prog W 0 (fun _ => true) true Try.f4.params.toList args.toList ds ps := hA0
  clear hA0 hval0
  rw [Try.params4] at hA hval
  obtain ⟨v0, vs0, d0, ds0, p0, q0, hargs, rfl, rfl, h0, r0⟩ := trodAll_cons hA
  obtain ⟨v1, vs1, d1, ds1, p1, q1, rfl, rfl, rfl, h1, r1⟩ := trodAll_cons r0
  obtain ⟨rfl, rfl, rfl⟩ := trodAll_nil r1
  obtain rfl : args = #[v0, v1] := by cases args; simp_all
  obtain ⟨A0, n0, cap0, f0, rfl, le0, mx0, wf0, rd0⟩ := open_slice_ints Try.underlying42 Try.underlying30 (by kernel_rfl) (hval 0 42 v0 rfl rfl) h0
  obtain ⟨A1, n1, cap1, f1, rfl, le1, mx1, wf1, rd1⟩ := open_slice_ints Try.underlying46 Try.underlying5 (by kernel_rfl) (hval 1 46 v1 rfl rfl) h1
  refine ⟨⟨rfl, rfl, rfl⟩, ?_⟩
  exact walk A0 n0 cap0 f0 A1 n1 cap1 f1 W (by omega) (by omega) rd0 (fun j => bounds_u64 (wf0 j)) rd1 (fun j => bounds_u8 (wf1 j))

theorem over : Rows.heapSortsRow.holds Try.pinned (OpenSpec.ofChange Rows.heapSortsSpec) :=
  OpenClaim.holds_of_wide 4 Try.f4 rfl rfl rfl rfl rfl rfl rfl ⟨rfl, rfl, rfl, rfl, rfl⟩ rfl rfl rfl rfl rfl (by kernel_rfl) Try.func4 (by kernel_rfl)
    (of_decide_eq_true (by kernel_rfl)) (by unfold Func.isWrapper; first | (rw [if_pos (by decide +kernel)]; kernel_rfl) | (rw [if_neg (by decide +kernel)]; exact ⟨rfl, rfl⟩))
    (fun os started H enc _ => lifted os started H enc)
theorem proved : Rows.HeapSortsSaid := over
#print axioms proved
end Go.Proofs.Ytncoeoccdimgoaa.heapSorts
