/-
  For every list of numbers and of keys HeapBack answers true, and changes nothing: whoever is dropped is none, and can come again with another key; who is put twice is one. No condition.
-/
import Derived.Test.YtncoeoccdimgoaaRows
import Derived.Test.YtncoeoccdimgoaaFr
import Derived.Test.YtncoeoccdimgoaaHeapB
import Derived.Deep.DeepCutAuto
import Derived.Deep.CutBlock
namespace Go.Proofs.Ytncoeoccdimgoaa.heapBack
open Go.ChangeShapes Go.WideShapes Go.ChangeAt Go.RowKit
set_option linter.unusedVariables false
theorem own : ownKnob Try.prog.godebug = none := by kernel_rfl
theorem laid : laidOutB Try.prog = true := by kernel_rfl
set_option maxRecDepth 100000
set_option maxHeartbeats 2000000
theorem walk (A : Option Addr) (n cap : Nat) (f : Nat → Int) (A1 : Option Addr) (n1 cap1 : Nat) (f1 : Nat → Int) (w : World) (hm : n ≤ maxLen) (hm1 : n1 ≤ maxLen) (rd : Rd w A n (fun j => .int .u8 (f j))) (hf : ∀ j, 0 ≤ f j ∧ f j ≤ 255)
    (rd1 : Rd w A1 n1 (fun j => .int .u64 (f1 j))) :
    Calls Try.prog 6 #[.slice A n cap, .slice A1 n1 cap1] w fun r w' => r = .returned (.bool true) ∧ Below w.heap.size w w' := by
  unfold maxLen at hm hm1
  have RD := Lib.hid rd
  have HF := Lib.hid hf
  have RD1 := Lib.hid rd1
  clear rd hf rd1
  go_enter Try.func6, Try.ntmps6
  go_wp2_with fail
  refine (awake_o (St.begin w)).mono ?_
  rintro r w1 ⟨rfl, s1⟩
  have N1 := Lib.hid (New_o (n := 100) s1 (by omega) (by omega))
  clear s1
  go_wp2_with fail
  refine N1.out.mono ?_
  rintro r w2 ⟨q, rfl, s2'⟩
  have S2 := Lib.hid (show St w None w2 [HeapR q 100 (fun _ => none)] from s2')
  clear s2' N1
  by_cases hbig : 100 < n
  · have d1 : decide (100 < (n : Int)) = true := decide_eq_true (by omega)
    have d1' : decide (100 < n) = true := decide_eq_true hbig
    go_wp2_with fail
    go_ret
    exact ⟨rfl, S2.out.below⟩
  have d1 : decide (100 < (n : Int)) = false := decide_eq_false (by omega)
  have d1' : decide (100 < n) = false := decide_eq_false hbig
  by_cases h0 : n1 = 0
  · subst h0
    go_wp2_with fail
    go_ret
    exact ⟨rfl, S2.out.below⟩
  have z0 : ((n1 : Int) == 0) = false := beq_eq_false_iff_ne.2 (by omega)
  have hn0 : 0 < n1 := by omega
  clear h0
  go_wp2_with fail
  go_loopw [7] (fun i wr => ∃ (k : Nat) (M : HM), k ≤ n ∧ i = .int .i64 k ∧ St w None wr [HeapR q 100 M]) (fun i _ => n - (intOf i).toNat)
  case atStart => exact ⟨0, _, by omega, rfl, S2.out⟩
  case round =>
  clear S2
  obtain ⟨k, M, hk, rfl, sr⟩ := hrel
  by_cases hkn : k < n
  · obtain ⟨ib, off, rfl, hib, hrd⟩ := RD.out (by omega)
    obtain ⟨jb, jff, rfl, hjb, hjrd⟩ := RD1.out (by omega)
    have hx := HF.out k
    obtain ⟨t, ht⟩ : ∃ t : Nat, (t : Int) = f k := ⟨(f k).toNat, by omega⟩
    obtain ⟨a, ha⟩ : ∃ a : Nat, a = t % 100 := ⟨_, rfl⟩
    obtain ⟨b, hb⟩ : ∃ b : Nat, b = k % n1 := ⟨_, rfl⟩
    have ha100 : a < 100 := by omega
    have hbk : b < n1 := by rw [hb]; exact Nat.mod_lt _ hn0
    have e0 : wr.cell? ⟨ib, off + k, none⟩ = some (.int .u8 (t : Int)) := by rw [ht]; exact (sr.below.cell (p := ⟨ib, off + k, none⟩) hib).trans (hrd k hkn)
    have CE := Lib.hid (fun (W : World) (K : Below w.heap.size w W) => show W.cell? ⟨jb, jff + b, none⟩ = some (.int .u64 (f1 b)) from (K.cell (p := ⟨jb, jff + b, none⟩) hjb).trans (hjrd b hbk))
    have h1 : Int.tmod (t : Int) 100 = (a : Int) := by rw [Int.tmod_eq_emod_of_nonneg (by omega), ha]; exact (Int.natCast_emod t 100).symm
    have h1' : (t : Int) % 100 = (a : Int) := by rw [ha]; exact (Int.natCast_emod t 100).symm
    have h2 : (k : Int) % (n1 : Int) = (b : Int) := by rw [hb]; exact (Int.natCast_emod k n1).symm
    have h3 : IntKind.i64.wrap (t : Int) = (t : Int) := IntWalk.i64_in _ ⟨by omega, by omega⟩
    obtain ⟨kk, hkk⟩ : ∃ kk, kk = f1 b := ⟨_, rfl⟩
    rw [← hkk] at CE
    have P1 : HPutP 100 M (a : Int) 5 0 (M.put a 5) := Or.inr ⟨a, ha100, rfl, rfl, rfl⟩
    have P2 : HPutP 100 (M.put a 5) (a : Int) kk 0 ((M.put a 5).put a kk) := Or.inr ⟨a, ha100, rfl, rfl, rfl⟩
    have hM2 : ((M.put a 5).put a kk) a = some kk := by simp [HM.put]
    obtain ⟨M2, hM2e⟩ : ∃ M2, M2 = (M.put a 5).put a kk := ⟨_, rfl⟩
    rw [← hM2e] at P2 hM2
    have K2 : KeyP 100 M2 (a : Int) kk 0 := Or.inl ⟨a, rfl, hM2, rfl⟩
    have D1 : HDropP M2 (a : Int) 0 (M2.del a) := Or.inr ⟨a, kk, rfl, hM2, rfl, rfl⟩
    have hM3 : (M2.del a) a = none := by simp [HM.del]
    have D2 : HDropP (M2.del a) (a : Int) 6 (M2.del a) := Or.inl ⟨fun i hi => by
      obtain rfl : a = i := by omega
      exact hM3, rfl, rfl⟩
    have K3 : KeyP 100 (M2.del a) (a : Int) 0 6 := Or.inr ⟨fun i hi => by
      obtain rfl : a = i := by omega
      exact hM3, rfl, rfl⟩
    have P1 := Lib.hid P1
    have P2 := Lib.hid P2
    have K2 := Lib.hid K2
    have D1 := Lib.hid D1
    have D2 := Lib.hid D2
    have K3 := Lib.hid K3
    obtain ⟨c, hc⟩ : ∃ c, c = M.cnt 100 := ⟨_, rfl⟩
    have HC := Lib.hid hc
    have hcb : c ≤ 100 := by rw [hc]; exact HM.cnt_le M 100
    have z3 : (kk != kk) = false := by simp
    have HT3 := Lib.hid (show k % 3 = 2 ∨ k % 3 ≠ 2 by omega)
    cases hM : M a with
    | none =>
      have hc2 : M2.cnt 100 = c + 1 := by
        rw [hM2e, HM.cnt_old kk (by simp [HM.put]), HM.cnt_new 5 hM, if_pos ha100, ← hc]
      have K1 := Lib.hid (Key_o sr 0 rfl (id := (a : Int)) (x := 0) (f := 6) (Or.inr ⟨fun i hi => by
        obtain rfl : a = i := by omega
        exact hM, rfl, rfl⟩))
      have HC2 := Lib.hid hc2
      have y1 : (((c + 1 : Nat) : Int) != (c : Int) + 1) = false := by simp
      have y1' : ((c : Int) + 1 != (c : Int) + 1) = false := by simp
      have y2 : (((c + 1 : Nat) : Int) != (c : Int)) = true := by simp; omega
      have y2' : ((c : Int) + 1 != (c : Int)) = true := by simp; omega
      have SR := Lib.hid sr
      clear hM hM2 hM2e hM3 hc hc2 sr ha hb ht hrd hjrd hkk hx
      go_wp2_with fail
      refine K1.out.mono ?_
      rintro r' w3 ⟨rfl, rfl⟩
      have LE := Lib.hid (Len_o SR.out 0 rfl HC.out)
      clear K1 e0
      go_wp2_with fail
      refine LE.out.mono ?_
      rintro r' w4 ⟨rfl, rfl⟩
      have C1 := Lib.hid (Put_o SR.out 0 rfl P1.out)
      clear LE SR P1
      go_wp2_with fail
      refine C1.out.mono ?_
      rintro r' w5 ⟨rfl, s5⟩
      have e5 := CE.out _ s5.below
      have C2 := Lib.hid (Put_o s5 0 rfl P2.out)
      clear C1 P2 s5
      go_wp2_with fail
      refine C2.out.mono ?_
      rintro r' w6 ⟨rfl, s6⟩
      have e6 := CE.out _ s6.below
      have C3 := Lib.hid (Key_o s6 0 rfl K2.out)
      have L3 := Lib.hid (Len_o s6 0 rfl HC2.out.symm)
      have C4 := Lib.hid (Drop_o s6 0 rfl D1.out)
      have S6 := Lib.hid s6
      clear C2 s6 e5 K2 D1 HC HC2
      go_wp2_with fail
      refine C3.out.mono ?_
      rintro r' w7 ⟨rfl, rfl⟩
      clear C3
      go_wp2_with fail
      refine L3.out.mono ?_
      rintro r' w8 ⟨rfl, rfl⟩
      clear e6 CE h1 h1' h2
      go_wp2_with fail
      refine L3.out.mono ?_
      rintro r' w9 ⟨rfl, rfl⟩
      clear L3
      rcases HT3.out with h | h
      · have z5 : (k : Int) % 3 = 2 := by omega
        clear h
        go_wp2_with fail
        refine C4.out.mono ?_
        rintro r' w10 ⟨rfl, s10⟩
        have C5 := Lib.hid (Drop_o s10 0 rfl D2.out)
        clear s10 C4 z5 S6
        go_wp2_with fail
        refine C5.out.mono ?_
        rintro r' w11 ⟨rfl, s11⟩
        have C6 := Lib.hid (Key_o s11 0 rfl K3.out)
        have S11 := Lib.hid s11
        clear s11 C5 D2 K3
        go_wp2_with fail
        refine C6.out.mono ?_
        rintro r' w12 ⟨rfl, rfl⟩
        clear C6
        go_wp2_with fail
        go_roundw
        case rel => exact ⟨k + 1, _, by omega, by go_num, S11.out⟩
        case measure => simp [intOf]; omega
      · have z5 : ((k : Int) % 3 == 2) = false := beq_eq_false_iff_ne.2 (by omega)
        clear h C4 D2 K3
        go_wp2_with fail
        go_roundw
        case rel => exact ⟨k + 1, _, by omega, by go_num, S6.out⟩
        case measure => simp [intOf]; omega
    | some y =>
      have hc2 : M2.cnt 100 = c := by
        rw [hM2e, HM.cnt_old kk (by simp [HM.put]), HM.cnt_old 5 (by rw [hM]; rfl), ← hc]
      have K1 := Lib.hid (Key_o sr 0 rfl (id := (a : Int)) (x := y) (f := 0) (Or.inl ⟨a, rfl, hM, rfl⟩))
      have HC2 := Lib.hid hc2
      have y1 : ((c : Int) != (c : Int) + 1) = true := by simp; omega
      have y2 : ((c : Int) != (c : Int)) = false := by simp
      have SR := Lib.hid sr
      clear hM hM2 hM2e hM3 hc hc2 sr ha hb ht hrd hjrd hkk hx
      go_wp2_with fail
      refine K1.out.mono ?_
      rintro r' w3 ⟨rfl, rfl⟩
      have LE := Lib.hid (Len_o SR.out 0 rfl HC.out)
      clear K1 e0
      go_wp2_with fail
      refine LE.out.mono ?_
      rintro r' w4 ⟨rfl, rfl⟩
      have C1 := Lib.hid (Put_o SR.out 0 rfl P1.out)
      clear LE SR P1
      go_wp2_with fail
      refine C1.out.mono ?_
      rintro r' w5 ⟨rfl, s5⟩
      have e5 := CE.out _ s5.below
      have C2 := Lib.hid (Put_o s5 0 rfl P2.out)
      clear C1 P2 s5
      go_wp2_with fail
      refine C2.out.mono ?_
      rintro r' w6 ⟨rfl, s6⟩
      have e6 := CE.out _ s6.below
      have C3 := Lib.hid (Key_o s6 0 rfl K2.out)
      have L3 := Lib.hid (Len_o s6 0 rfl HC2.out.symm)
      have C4 := Lib.hid (Drop_o s6 0 rfl D1.out)
      have S6 := Lib.hid s6
      clear C2 s6 e5 K2 D1 HC HC2
      go_wp2_with fail
      refine C3.out.mono ?_
      rintro r' w7 ⟨rfl, rfl⟩
      clear C3
      go_wp2_with fail
      refine L3.out.mono ?_
      rintro r' w8 ⟨rfl, rfl⟩
      clear e6 CE h1 h1' h2
      go_wp2_with fail
      refine L3.out.mono ?_
      rintro r' w9 ⟨rfl, rfl⟩
      clear L3
      rcases HT3.out with h | h
      · have z5 : (k : Int) % 3 = 2 := by omega
        clear h
        go_wp2_with fail
        refine C4.out.mono ?_
        rintro r' w10 ⟨rfl, s10⟩
        have C5 := Lib.hid (Drop_o s10 0 rfl D2.out)
        clear s10 C4 z5 S6
        go_wp2_with fail
        refine C5.out.mono ?_
        rintro r' w11 ⟨rfl, s11⟩
        have C6 := Lib.hid (Key_o s11 0 rfl K3.out)
        have S11 := Lib.hid s11
        clear s11 C5 D2 K3
        go_wp2_with fail
        refine C6.out.mono ?_
        rintro r' w12 ⟨rfl, rfl⟩
        clear C6
        go_wp2_with fail
        go_roundw
        case rel => exact ⟨k + 1, _, by omega, by go_num, S11.out⟩
        case measure => simp [intOf]; omega
      · have z5 : ((k : Int) % 3 == 2) = false := beq_eq_false_iff_ne.2 (by omega)
        clear h C4 D2 K3
        go_wp2_with fail
        go_roundw
        case rel => exact ⟨k + 1, _, by omega, by go_num, S6.out⟩
        case measure => simp [intOf]; omega
  · obtain rfl : k = n := by omega
    have z1 : decide ((k : Int) < (k : Int)) = false := decide_eq_false (by omega)
    go_wp2_with fail
    go_ret
    exact ⟨rfl, sr.below⟩

set_option maxRecDepth 100000 in
theorem lifted (os : Os) (started : os.Started) (H : Type) (enc : TypeId × Value → H) :
    ReturnsInHanded {} Try.checked os 6 .any (Rows.heapBackSpec.pre6 enc Try.prog Try.f6 Rows.heapBackRow.domain false) (Rows.heapBackSpec.post enc Try.prog Try.f6 false true false false) := by
  refine law_lifted (C := Try.checked) (tb := 4) own started (by kernel_rfl) Try.func6
    (ChangeSpec.witness6 (enc := enc) (C := Try.checked) false ⟨#[], #[.slice none 0 0, .slice none 0 0], []⟩ 8 (by kernel_rfl) (by kernel_rfl) (by kernel_rfl) (by kernel_rfl)) laid (by kernel_rfl) (by kernel_rfl) Try.underlying4 rfl ?_
  intro W base args ds ps hval0 hA0 hlt
  have hval : ∀ (j : Nat) t v, Try.f6.params[j]? = some t → args[j]? = some v → Value.okWide Try.prog W .any base t v := hval0
  have hA : DataW.TrodAll enc Try.prog W 0 (fun _ => true) true Try.f6.params.toList args.toList ds ps := hA0
  clear hA0 hval0
  rw [Try.params6] at hA hval
  obtain ⟨v0, vs0, d0, ds0, p0, q0, hargs, rfl, rfl, h0, r0⟩ := trodAll_cons hA
  obtain ⟨v1, vs1, d1, ds1, p1, q1, rfl, rfl, rfl, h1, r1⟩ := trodAll_cons r0
  obtain ⟨rfl, rfl, rfl⟩ := trodAll_nil r1
  obtain rfl : args = #[v0, v1] := by cases args; simp_all
  obtain ⟨A0, n0, cap0, f0, rfl, le0, mx0, wf0, rd0⟩ := open_slice_ints Try.underlying46 Try.underlying5 (by kernel_rfl) (hval 0 46 v0 rfl rfl) h0
  obtain ⟨A1, n1, cap1, f1, rfl, le1, mx1, wf1, rd1⟩ := open_slice_ints Try.underlying42 Try.underlying30 (by kernel_rfl) (hval 1 42 v1 rfl rfl) h1
  refine ⟨⟨rfl, rfl, rfl⟩, ?_⟩
  exact walk A0 n0 cap0 f0 A1 n1 cap1 f1 W (by omega) (by omega) rd0 (fun j => bounds_u8 (wf0 j)) rd1

theorem over : Rows.heapBackRow.holds Try.pinned (OpenSpec.ofChange Rows.heapBackSpec) :=
  OpenClaim.holds_of_wide 6 Try.f6 rfl rfl rfl rfl rfl rfl rfl ⟨rfl, rfl, rfl, rfl, rfl⟩ rfl rfl rfl rfl rfl (by kernel_rfl) Try.func6 (by kernel_rfl)
    (of_decide_eq_true (by kernel_rfl)) (by unfold Func.isWrapper; first | (rw [if_pos (by decide +kernel)]; kernel_rfl) | (rw [if_neg (by decide +kernel)]; exact ⟨rfl, rfl⟩))
    (fun os started H enc _ => lifted os started H enc)
theorem proved : Rows.HeapBackSaid := over
#print axioms proved
end Go.Proofs.Ytncoeoccdimgoaa.heapBack
