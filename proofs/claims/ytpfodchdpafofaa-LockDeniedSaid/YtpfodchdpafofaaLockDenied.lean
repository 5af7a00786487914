/-
  For every list of locks and every urgency LockDenied answers true, and changes nothing: whoever is more urgent than a lock's ceiling never gets it, whoever isn't gets it. No condition.
-/
import Derived.Test.YtpfodchdpafofaaRows
import Derived.Test.YtpfodchdpafofaaFr
import Derived.Test.YtpfodchdpafofaaLockK
import Derived.Deep.DeepCutAuto
import Derived.Deep.CutBlock
namespace Go.Proofs.Ytpfodchdpafofaa.lockDenied
open Go.ChangeShapes Go.WideShapes Go.ChangeAt Go.RowKit
set_option linter.unusedVariables false
theorem own : ownKnob Try.prog.godebug = none := by kernel_rfl
theorem laid : laidOutB Try.prog = true := by kernel_rfl
set_option maxRecDepth 100000
set_option maxHeartbeats 4000000
def Den (s : KS) (p : Int) (j : Nat) : Prop := (∃ m, s.mem 9 = some m ∧ m.prio = p ∧ ∀ x ∈ m.held, x < j) ∧ ∀ i, i ≠ 9 → s.mem i = none
theorem den_free {s : KS} {p : Int} {j : Nat} (h : Den s p j) (i : Nat) : ¬ holds s i j := by
  rintro ⟨m, hm, hx⟩
  by_cases e : i = 9
  · subst e
    obtain ⟨m', h1, _, h3⟩ := h.1
    rw [hm] at h1; injection h1 with h1; subst h1
    have := h3 j hx; omega
  · rw [h.2 i e] at hm; cases hm
theorem den_no {s : KS} {p : Int} {j : Nat} (h : Den s p j) (hj : j < s.ceils.length) (hp : p < s.ceil j) : TakeP s 9 (j : Int) 11 s := by
  obtain ⟨m, h1, h2, h3⟩ := h.1
  exact Or.inr ⟨j, rfl, hj, Or.inr ⟨m, h1, Or.inr (Or.inl ⟨fun hx => by have := h3 j hx; omega, by omega, rfl, rfl⟩)⟩⟩
theorem den_yes {s : KS} {p : Int} {j : Nat} (h : Den s p j) (hj : j < s.ceils.length) (hp : s.ceil j ≤ p) : ∃ s', TakeP s 9 (j : Int) 0 s' ∧ s'.ceils = s.ceils ∧ Den s' p (j + 1) ∧ ∀ i, holds s' i j ↔ some 9 = some i := by
  have hf := den_free h
  obtain ⟨m, h1, h2, h3⟩ := h.1
  refine ⟨_, Or.inr ⟨j, rfl, hj, Or.inr ⟨m, h1, Or.inr (Or.inr (Or.inr ⟨fun hx => by have := h3 j hx; omega, by omega, hf, rfl, rfl⟩))⟩⟩, rfl, ⟨⟨_, rfl, h2, fun x hx => ?_⟩, fun i hi => ?_⟩, fun i => ⟨fun hi => ?_, fun e => ?_⟩⟩
  · rcases List.mem_append.1 hx with hx | hx
    · have := h3 x hx; omega
    · simp at hx; omega
  · exact (if_neg hi).trans (h.2 i hi)
  · by_cases e : i = 9
    · rw [e]
    · obtain ⟨m', hm, hx⟩ := hi
      have hm : (if i = 9 then _ else s.mem i) = some m' := hm
      rw [if_neg e, h.2 i e] at hm; cases hm
  · injection e with e; subst e
    exact ⟨_, rfl, by simp⟩
theorem den_step {s : KS} {p : Int} {j : Nat} (h : Den s p j) : Den s p (j + 1) := by
  obtain ⟨⟨m, h1, h2, h3⟩, h4⟩ := h
  exact ⟨⟨m, h1, h2, fun x hx => by have := h3 x hx; omega⟩, h4⟩
theorem den_new (l : List Int) (p : Int) : Den ((KS.new l).set 9 (some ⟨p, []⟩)) p 0 := ⟨⟨_, rfl, rfl, fun x hx => by cases hx⟩, fun i hi => if_neg hi⟩
theorem walk (A : Option Addr) (n cap : Nat) (V : Nat → Nat → Value) (a1 : Int) (w : World) (hm : n ≤ maxLen) (rd : RdM w A n 1 V) (hV : ∀ j, j < n → ∃ z : Int, V j 0 = .int .i64 z) (h1 : 0 ≤ a1 ∧ a1 ≤ 255) :
    Calls Try.prog 6 #[.slice A n cap, .int .u8 a1] w fun r w' => r = .returned (.bool true) ∧ Below w.heap.size w w' := by
  unfold maxLen at hm
  obtain ⟨l, hl, hr⟩ := list_of rd hV
  have AW := Lib.hid (awake_s (St.begin w))
  have HR := Lib.hid hr
  have HL := Lib.hid hl
  obtain ⟨p, hp⟩ : ∃ p, a1.tmod 101 = p := ⟨_, rfl⟩
  have hpb : 0 ≤ p ∧ p ≤ 100 := by rw [← hp, Int.tmod_eq_emod_of_nonneg h1.1]; omega
  clear rd hV hr hl
  by_cases hmay : mayK l
  case neg =>
    have RM := Lib.hid (fun w1 (K : Below w.heap.size w w1) => rMay_c (d := cap) w1 (HR.out.stay K) HL.out (by omega) false (decide_eq_false hmay).symm)
    clear hmay hp hpb
    go_enter Try.func6, Try.ntmps6
    go_wp2_with fail
    refine AW.out.mono ?_
    rintro r w1 ⟨rfl, s1⟩
    have R1 := Lib.hid (RM.out w1 s1.below)
    go_wp2_with fail
    refine R1.out.mono ?_
    rintro r w2 ⟨rfl, rfl⟩
    go_wp2_with fail
    go_ret
    exact ⟨rfl, s1.below⟩
  have RM := Lib.hid (fun w1 (K : Below w.heap.size w w1) => rMay_c (d := cap) w1 (HR.out.stay K) HL.out (by omega) true (decide_eq_true hmay).symm)
  have HM := Lib.hid hmay
  have hn1 : 1 ≤ n ∧ n ≤ 16 := by have := hmay.2; rw [HL.out] at this; exact this
  clear hmay
  go_enter Try.func6, Try.ntmps6
  go_wp2_with fail
  refine AW.out.mono ?_
  rintro r w1 ⟨rfl, s1⟩
  have R1 := Lib.hid (RM.out w1 s1.below)
  have N1 := Lib.hid (New_o (d := cap) s1 (HR.out.stay s1.below) HL.out hn1.1 hn1.2 HM.out.1)
  clear s1 AW RM
  go_wp2_with fail
  refine R1.out.mono ?_
  rintro r w2 ⟨rfl, rfl⟩
  go_wp2_with fail
  refine N1.out.mono ?_
  rintro r w2 ⟨k, rfl, s2⟩
  have OK0 := Lib.hid (KS.new_ok (l := l) (by rw [HL.out]; omega) (by rw [HL.out]; omega) HM.out.1)
  have C1 := Lib.hid (show Calls Try.prog 11 #[.pointer (some ⟨k, 0, none⟩), .int .i64 9, .int .i64 p] w2 _ from Know_o s2 0 rfl OK0.out (i := 9) (by decide) (fun m h => by cases h) hpb (by decide))
  clear s2 R1 N1
  go_wp2_with fail
  refine C1.out.mono ?_
  rintro r w3 ⟨rfl, s3⟩
  have S3 := Lib.hid (show St w None w3 [KR k 1 ((KS.new l).set 9 (some ⟨p, []⟩))] from s3)
  have OK1 := Lib.hid (know_ok OK0.out (i := 9) (by decide) hpb)
  clear C1 s3
  go_wp2_with fail
  go_loopw [8] (fun t wr => ∃ (j : Nat) (s : KS), j ≤ n ∧ t = .int .i64 (j : Int) ∧ s.ok ∧ s.ceils = l ∧ Den s p j ∧ St w None wr [KR k 1 s]) (fun t _ => n - (intOf t).toNat)
  case atStart => exact ⟨0, _, by omega, rfl, OK1.out, rfl, den_new l p, S3.out⟩
  case round =>
  clear S3 OK1 OK0
  obtain ⟨j, s, hj, rfl, hok, hcl, hden, sr⟩ := hrel
  have OK := Lib.hid hok
  have HCL := Lib.hid hcl
  have HD := Lib.hid hden
  have SR := Lib.hid sr
  clear hok hcl hden sr
  by_cases hjn : j < n
  case neg =>
    have t1 : decide ((j : Int) < (n : Int)) = false := decide_eq_false (by omega)
    have t1' : decide (j < n) = false := decide_eq_false hjn
    obtain ⟨m, hm9, hmp, -⟩ := HD.out.1
    have hcu : s.cur m ≤ p := by rw [← hmp]; exact cur_le s m
    obtain ⟨q, hq⟩ : ∃ q, s.cur m = q := ⟨_, rfl⟩
    rw [hq] at hcu
    have PC := Lib.hid (show Calls Try.prog 13 #[.pointer (some ⟨k, 0, none⟩), .int .i64 9] wr (fun e w' => e = .returned (.tuple #[.int .i64 q, .int .i64 0]) ∧ wr = w') by rw [← hq]; exact Prio_o SR.out 0 rfl OK.out (i := 9) hm9)
    have t2 : decide (q ≤ p) = true := decide_eq_true hcu
    clear hq hcu hm9 hmp
    go_wp2_with fail
    refine PC.out.mono ?_
    rintro r w4 ⟨rfl, rfl⟩
    go_wp2_with fail
    go_ret
    exact ⟨rfl, SR.out.below⟩
  have t1 : decide ((j : Int) < (n : Int)) = true := decide_eq_true (by omega)
  have t1' : decide (j < n) = true := decide_eq_true hjn
  have j0 : (0 : Int) ≤ (j : Int) := by omega
  have j1 : (j : Int) < (n : Int) := by omega
  obtain ⟨x, hx⟩ : ∃ x, l[j]? = some x := ⟨_, List.getElem?_eq_getElem (by rw [HL.out]; exact hjn)⟩
  have hjl : j < s.ceils.length := by rw [HCL.out, HL.out]; exact hjn
  have hcx : s.ceil j = x := by unfold KS.ceil; rw [HCL.out, List.getD_eq_getElem?_getD, hx]; rfl
  obtain ⟨g, off, rfl, hg⟩ := HR.out.2.resolve_left (by omega)
  have CE := Lib.hid (show ∀ W, Below w.heap.size w W → W.cell? ⟨g, off + j, none⟩ = some (.int .i64 x) from fun W K => by
    have h := hg j _ (cvs_get hx)
    rw [K.cell (block_lt h)]; exact h)
  by_cases hpx : p < x
  · have TC := Lib.hid (show Calls Try.prog 14 #[.pointer (some ⟨k, 0, none⟩), .int .i64 9, .int .i64 (j : Int)] wr _ from Take_o SR.out 0 rfl OK.out (i := 9) (by decide) (den_no HD.out hjl (by rw [hcx]; exact hpx)))
    have d1 : decide (p < x) = true := decide_eq_true hpx
    have d2 : decide (x ≤ p) = false := decide_eq_false (by omega)
    have HD' := Lib.hid (den_step HD.out)
    clear hpx hcx hx hg
    go_wp2_with fail
    refine TC.out.mono ?_
    rintro r w4 ⟨rfl, s4⟩
    have HC := Lib.hid (Holder_o s4 0 rfl OK.out j none (fun i => ⟨fun h => absurd h (den_free HD.out i), fun h => by cases h⟩))
    have S4 := Lib.hid (show St w None w4 [KR k 1 s] from s4)
    clear TC s4
    go_wp2_with fail
    refine HC.out.mono ?_
    rintro r w5 ⟨rfl, hb⟩
    have s5 := S4.out.stay hb
    have c0 := CE.out w5 s5.below
    have S5 := Lib.hid s5
    clear HC hb s5
    go_wp2_with fail
    go_roundw
    case rel => exact ⟨j + 1, s, by omega, by go_num, OK.out, HCL.out, HD'.out, S5.out⟩
    case measure => simp [intOf]; omega
  · obtain ⟨s', hT, hcl', hden', hho⟩ := den_yes HD.out hjl (by omega)
    have TC := Lib.hid (show Calls Try.prog 14 #[.pointer (some ⟨k, 0, none⟩), .int .i64 9, .int .i64 (j : Int)] wr _ from Take_o SR.out 0 rfl OK.out (i := 9) (by decide) hT)
    have OK' := Lib.hid (hT.ok OK.out)
    have HCL' := Lib.hid (hcl'.trans HCL.out)
    have HD' := Lib.hid hden'
    have HHO := Lib.hid hho
    have d1 : decide (p < x) = false := decide_eq_false hpx
    have d2 : decide (x ≤ p) = true := decide_eq_true (by omega)
    clear hpx hcx hx hg hT hcl' hden' hho
    go_wp2_with fail
    refine TC.out.mono ?_
    rintro r w4 ⟨rfl, s4⟩
    have HC := Lib.hid (show Calls Try.prog 17 #[.pointer (some ⟨k, 0, none⟩), .int .i64 (j : Int)] w4 (fun e w' => e = .returned (.tuple #[.int .i64 9, .bool true]) ∧ Below w4.heap.size w4 w') from Holder_o s4 0 rfl OK'.out j (some 9) HHO.out)
    have S4 := Lib.hid (show St w None w4 [KR k 1 s'] from s4)
    clear TC s4
    go_wp2_with fail
    refine HC.out.mono ?_
    rintro r w5 ⟨rfl, hb⟩
    have s5 := S4.out.stay hb
    have c0 := CE.out w5 s5.below
    have S5 := Lib.hid s5
    clear HC hb s5
    go_wp2_with fail
    go_roundw
    case rel => exact ⟨j + 1, s', by omega, by go_num, OK'.out, HCL'.out, HD'.out, S5.out⟩
    case measure => simp [intOf]; omega

set_option maxRecDepth 100000 in
theorem lifted (os : Os) (started : os.Started) (H : Type) (enc : TypeId × Value → H) :
    ReturnsInHanded {} Try.checked os 6 .any (Rows.lockDeniedSpec.pre6 enc Try.prog Try.f6 Rows.lockDeniedRow.domain false) (Rows.lockDeniedSpec.post enc Try.prog Try.f6 false true false false) := by
  refine law_lifted (C := Try.checked) (tb := 4) own started (by kernel_rfl) Try.func6
    (ChangeSpec.witness6 (enc := enc) (C := Try.checked) false ⟨#[], #[.slice none 0 0, .int .u8 0], []⟩ 8 (by kernel_rfl) (by kernel_rfl) (by kernel_rfl) (by kernel_rfl)) laid (by kernel_rfl) (by kernel_rfl) Try.underlying4 rfl ?_
  intro W base args ds ps hval0 hA0 hlt
  have hval : ∀ (j : Nat) t v, Try.f6.params[j]? = some t → args[j]? = some v → Value.okWide Try.prog W .any base t v := hval0
  have hA : DataW.TrodAll enc Try.prog W 0 (fun _ => true) true Try.f6.params.toList args.toList ds ps := hA0
  clear hA0 hval0
  rw [Try.params6] at hA hval
  obtain ⟨v0, vs0, d0, ds0, p0, q0, hargs, rfl, rfl, h0, r0⟩ := trodAll_cons hA
  obtain ⟨v1, vs1, d1, ds1, p1, q1, rfl, rfl, rfl, h1, r1⟩ := trodAll_cons r0
  obtain ⟨rfl, rfl, rfl⟩ := trodAll_nil r1
  obtain rfl : args = #[v0, v1] := by cases args; simp_all
  obtain ⟨A0, n0, cap0, V0, rfl, le0, mx0, rd0, fl0⟩ := open_slice_flat (m := 1) Try.underlying22 Try.underlying42 (by kernel_rfl) rfl (by decide) (fun i f h => by match i, h with | 0, h => cases h; exact ⟨rfl, by kernel_rfl⟩ | n + 1, h => simp at h) (hval 0 22 v0 rfl rfl) h0
  have f0_0 := (fl0 0 _ rfl).1 _ Try.underlying3
  obtain ⟨a1, rfl, rfl, rfl, w1⟩ := open_int Try.underlying5 (hval 1 5 v1 rfl rfl) h1
  refine ⟨⟨rfl, rfl, rfl⟩, ?_⟩
  exact walk A0 n0 cap0 V0 a1 W (by omega) rd0 (fun j hj => by
    obtain ⟨z, h0, -⟩ := f0_0 j hj
    exact ⟨z, h0⟩) (bounds_u8 w1)

theorem over : Rows.lockDeniedRow.holds Try.pinned (OpenSpec.ofChange Rows.lockDeniedSpec) :=
  OpenClaim.holds_of_wide 6 Try.f6 rfl rfl rfl rfl rfl rfl rfl ⟨rfl, rfl, rfl, rfl, rfl⟩ rfl rfl rfl rfl rfl (by kernel_rfl) Try.func6 (by kernel_rfl)
    (of_decide_eq_true (by kernel_rfl)) (by unfold Func.isWrapper; first | (rw [if_pos (by decide +kernel)]; kernel_rfl) | (rw [if_neg (by decide +kernel)]; exact ⟨rfl, rfl⟩))
    (fun os started H enc _ => lifted os started H enc)
theorem proved : Rows.LockDeniedSaid := over
#print axioms proved
end Go.Proofs.Ytpfodchdpafofaa.lockDenied
