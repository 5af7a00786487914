/-
  For every list of locks and every choice LockGone answers true, and changes nothing: who goes leaves all that it held free, the last one first, and isn't known; others' locks are as they were. No condition.
-/
import Derived.Test.YtpfodchdpafofaaRows
import Derived.Test.YtpfodchdpafofaaFr
import Derived.Test.YtpfodchdpafofaaLockK
import Derived.Deep.DeepCutAuto
import Derived.Deep.CutBlock
import Derived.Deep.QuietTactic
namespace Go.Proofs.Ytpfodchdpafofaa.lockGone
open Go.ChangeShapes Go.WideShapes Go.ChangeAt Go.RowKit
set_option linter.unusedVariables false
theorem own : ownKnob Try.prog.godebug = none := by kernel_rfl
theorem laid : laidOutB Try.prog = true := by kernel_rfl
set_option maxRecDepth 100000
set_option maxHeartbeats 8000000
def h1 (mi : Nat → Bool) (i : Nat) : List Nat := (List.range i).filter mi
def h2 (mi : Nat → Bool) (i : Nat) : List Nat := (List.range i).filter fun x => !mi x
theorem h1_lt {mi : Nat → Bool} {i x : Nat} (h : x ∈ h1 mi i) : x < i ∧ mi x = true := by unfold h1 at h; simpa using h
theorem h2_lt {mi : Nat → Bool} {i x : Nat} (h : x ∈ h2 mi i) : x < i ∧ mi x = false := by unfold h2 at h; simpa using h
theorem h2_in {mi : Nat → Bool} {i x : Nat} (h : x < i) (hm : mi x = false) : x ∈ h2 mi i := by unfold h2; simp [h, hm]
theorem h1_yes {mi : Nat → Bool} {i : Nat} (h : mi i = true) : h1 mi (i + 1) = h1 mi i ++ [i] := by unfold h1; rw [List.range_succ, List.filter_append]; simp [h]
theorem h1_no {mi : Nat → Bool} {i : Nat} (h : mi i = false) : h1 mi (i + 1) = h1 mi i := by unfold h1; rw [List.range_succ, List.filter_append]; simp [h]
theorem h2_yes {mi : Nat → Bool} {i : Nat} (h : mi i = true) : h2 mi (i + 1) = h2 mi i := by unfold h2; rw [List.range_succ, List.filter_append]; simp [h]
theorem h2_no {mi : Nat → Bool} {i : Nat} (h : mi i = false) : h2 mi (i + 1) = h2 mi i ++ [i] := by unfold h2; rw [List.range_succ, List.filter_append]; simp [h]
def Gn (s : KS) (mi : Nat → Bool) (i : Nat) : Prop := s.mem 1 = some ⟨100, h1 mi i⟩ ∧ s.mem 2 = some ⟨100, h2 mi i⟩ ∧ ∀ j, j ≠ 1 → j ≠ 2 → s.mem j = none
theorem gn_new (l : List Int) (mi : Nat → Bool) : Gn (((KS.new l).set 1 (some ⟨100, []⟩)).set 2 (some ⟨100, []⟩)) mi 0 :=
  ⟨rfl, rfl, fun j a b => (if_neg b).trans (if_neg a)⟩
theorem gn_free {s : KS} {mi : Nat → Bool} {i : Nat} (h : Gn s mi i) (j : Nat) : ¬ holds s j i := by
  rintro ⟨m, hm, hx⟩
  by_cases e1 : j = 1
  · subst e1; rw [h.1] at hm; injection hm with hm; subst hm
    have := (h1_lt hx).1; omega
  · by_cases e2 : j = 2
    · subst e2; rw [h.2.1] at hm; injection hm with hm; subst hm
      have := (h2_lt hx).1; omega
    · rw [h.2.2 j e1 e2] at hm; cases hm
theorem gn_take1 {s : KS} {mi : Nat → Bool} {i : Nat} (h : Gn s mi i) (hs : s.ok) (hi : i < s.ceils.length) (hm : mi i = true) :
    ∃ s', TakeP s 1 (i : Int) 0 s' ∧ TakeP s' 2 (i : Int) 10 s' ∧ s'.ceils = s.ceils ∧ Gn s' mi (i + 1) := by
  have hc := (hs.ceilB hi).2
  refine ⟨s.set 1 (some ⟨100, h1 mi i ++ [i]⟩), Or.inr ⟨i, rfl, hi, Or.inr ⟨_, h.1, Or.inr (Or.inr (Or.inr ⟨fun hx => by have := (h1_lt hx).1; omega, hc, gn_free h, rfl, rfl⟩))⟩⟩,
    Or.inr ⟨i, rfl, hi, Or.inr ⟨_, h.2.1, Or.inr (Or.inr (Or.inl ⟨fun hx => by have := (h2_lt hx).1; omega, hc, ⟨1, _, rfl, by simp⟩, rfl, rfl⟩))⟩⟩, rfl, ?_, ?_, fun j a b => (if_neg a).trans (h.2.2 j a b)⟩
  · rw [h1_yes hm]; rfl
  · rw [h2_yes hm]; exact h.2.1
theorem gn_take2 {s : KS} {mi : Nat → Bool} {i : Nat} (h : Gn s mi i) (hs : s.ok) (hi : i < s.ceils.length) (hm : mi i = false) :
    ∃ s', TakeP s 2 (i : Int) 0 s' ∧ TakeP s' 1 (i : Int) 10 s' ∧ s'.ceils = s.ceils ∧ Gn s' mi (i + 1) := by
  have hc := (hs.ceilB hi).2
  refine ⟨s.set 2 (some ⟨100, h2 mi i ++ [i]⟩), Or.inr ⟨i, rfl, hi, Or.inr ⟨_, h.2.1, Or.inr (Or.inr (Or.inr ⟨fun hx => by have := (h2_lt hx).1; omega, hc, gn_free h, rfl, rfl⟩))⟩⟩,
    Or.inr ⟨i, rfl, hi, Or.inr ⟨_, h.1, Or.inr (Or.inr (Or.inl ⟨fun hx => by have := (h1_lt hx).1; omega, hc, ⟨2, _, rfl, by simp⟩, rfl, rfl⟩))⟩⟩, rfl, ?_, ?_, fun j a b => (if_neg b).trans (h.2.2 j a b)⟩
  · rw [h1_no hm]; exact h.1
  · rw [h2_no hm]; rfl
theorem gn_holder {s : KS} {mi : Nat → Bool} {n i : Nat} (h : Gn s mi n) (hi : i < n) (j : Nat) : holds (s.set 1 none) j i ↔ (if mi i then none else some 2) = some j := by
  constructor
  · rintro ⟨m, hm, hx⟩
    have hm : (if j = 1 then none else s.mem j) = some m := hm
    by_cases e1 : j = 1
    · rw [if_pos e1] at hm; cases hm
    · rw [if_neg e1] at hm
      by_cases e2 : j = 2
      · subst e2
        rw [h.2.1] at hm; injection hm with hm; subst hm
        rw [(h2_lt hx).2]; rfl
      · rw [h.2.2 j e1 e2] at hm; cases hm
  · intro e
    cases hmi : mi i with
    | true => rw [hmi] at e; cases e
    | false =>
      rw [hmi] at e
      injection e with e; subst e
      exact ⟨⟨100, h2 mi n⟩, (show (if (2 : Nat) = 1 then none else s.mem 2) = _ from (if_neg (by decide)).trans h.2.1), h2_in hi hmi⟩
theorem walk (A : Option Addr) (n cap : Nat) (V : Nat → Nat → Value) (A1 : Option Addr) (n1 cap1 : Nat) (f : Nat → Bool) (w : World) (hm : n ≤ maxLen) (hm1 : n1 ≤ maxLen) (rd : RdM w A n 1 V) (hV : ∀ j, j < n → ∃ z : Int, V j 0 = .int .i64 z) (rd1 : Rd w A1 n1 (fun i => .bool (f i))) :
    Calls Try.prog 5 #[.slice A n cap, .slice A1 n1 cap1] w fun r w' => r = .returned (.bool true) ∧ Below w.heap.size w w' := by
  unfold maxLen at hm hm1
  obtain ⟨l, hl, hr⟩ := list_of rd hV
  have AW := Lib.hid (awake_s (St.begin w))
  have HR := Lib.hid hr
  have HL := Lib.hid hl
  have HR1 := Lib.hid rd1
  clear rd hV hr hl rd1
  by_cases hmay : mayK l
  case neg =>
    have RM := Lib.hid (fun w1 (K : Below w.heap.size w w1) => rMay_c (d := cap) w1 (HR.out.stay K) HL.out (by omega) false (decide_eq_false hmay).symm)
    clear hmay
    go_enter Try.func5, Try.ntmps5
    go_wp2_with fail
    refine AW.out.mono ?_
    rintro r w1 ⟨rfl, s1⟩
    have R1 := Lib.hid (RM.out w1 s1.below)
    go_wp2_with fail
    refine R1.out.mono ?_
    rintro r w2 ⟨rfl, rfl⟩
    go_wp2_with fail
    go_ret
    exact ⟨rfl, s1.below⟩
  have RM := Lib.hid (fun w1 (K : Below w.heap.size w w1) => rMay_c (d := cap) w1 (HR.out.stay K) HL.out (by omega) true (decide_eq_true hmay).symm)
  have HM := Lib.hid hmay
  have hn1 : 1 ≤ n ∧ n ≤ 16 := by have := hmay.2; rw [HL.out] at this; exact this
  clear hmay
  by_cases h16 : 16 < n1
  · have d1 : decide (16 < (n1 : Int)) = true := decide_eq_true (by omega)
    have d1' : decide (16 < n1) = true := decide_eq_true h16
    go_enter Try.func5, Try.ntmps5
    go_wp2_with fail
    refine AW.out.mono ?_
    rintro r w1 ⟨rfl, s1⟩
    have R1 := Lib.hid (RM.out w1 s1.below)
    go_wp2_with fail
    refine R1.out.mono ?_
    rintro r w2 ⟨rfl, rfl⟩
    go_wp2_with fail
    go_ret
    exact ⟨rfl, s1.below⟩
  have d1 : decide (16 < (n1 : Int)) = false := decide_eq_false (by omega)
  have d1' : decide (16 < n1) = false := decide_eq_false h16
  clear h16
  obtain ⟨mi, hmi⟩ : ∃ mi : Nat → Bool, mi = fun i => decide (i < n1) && f i := ⟨_, rfl⟩
  have HMI := Lib.hid hmi
  clear hmi
  go_enter Try.func5, Try.ntmps5
  go_wp2_with fail
  refine AW.out.mono ?_
  rintro r w1 ⟨rfl, s1⟩
  have R1 := Lib.hid (RM.out w1 s1.below)
  have N1 := Lib.hid (New_o (d := cap) s1 (HR.out.stay s1.below) HL.out hn1.1 hn1.2 HM.out.1)
  clear s1 AW RM
  go_wp2_with fail
  refine R1.out.mono ?_
  rintro r w2 ⟨rfl, rfl⟩
  go_wp2_with fail
  refine N1.out.mono ?_
  rintro r w2 ⟨k, rfl, s2⟩
  have OK0 := Lib.hid (KS.new_ok (l := l) (by rw [HL.out]; omega) (by rw [HL.out]; omega) HM.out.1)
  have C1 := Lib.hid (show Calls Try.prog 11 #[.pointer (some ⟨k, 0, none⟩), .int .i64 1, .int .i64 100] w2 _ from Know_o s2 0 rfl OK0.out (i := 1) (by decide) (fun m h => by cases h) (p := 100) (by decide) (by decide))
  clear s2 R1 N1
  go_wp2_with fail
  refine C1.out.mono ?_
  rintro r w3 ⟨rfl, s3⟩
  have OK1 := Lib.hid (know_ok OK0.out (i := 1) (by decide) (p := 100) (by decide))
  have C2 := Lib.hid (show Calls Try.prog 11 #[.pointer (some ⟨k, 0, none⟩), .int .i64 2, .int .i64 100] w3 _ from Know_o s3 0 rfl OK1.out (i := 2) (by decide) (fun m h => by cases h) (p := 100) (by decide) (by decide))
  clear C1 s3
  go_wp2_with fail
  refine C2.out.mono ?_
  rintro r w4 ⟨rfl, s4⟩
  have OK2 := Lib.hid (know_ok OK1.out (i := 2) (by decide) (p := 100) (by decide))
  have S4 := Lib.hid (show St w None w4 [KR k 2 (((KS.new l).set 1 (some ⟨100, []⟩)).set 2 (some ⟨100, []⟩)), LisR 3 1 (.slice none 0 0) 0 (ivs [])] from s4.lis_nil 3 1)
  obtain ⟨iI, hiI, hzI, hsI, hbI⟩ := info3k Try.infoInt
  clear C2 s4
  go_wp2_with fail
  go_loopw [7, 8] (fun h t wr => ∃ (i : Nat) (s : KS) (B : Option Addr) (cb m : Nat), i ≤ n ∧ t = .int .i64 (i : Int) ∧ h = .slice B m cb ∧ m = (h1 mi i).length ∧ m ≤ i ∧ s.ok ∧ s.ceils = l ∧ Gn s mi i ∧ St w None wr [KR k 2 s, LisR 3 1 (.slice B m cb) m (ivs (h1 mi i))]) (fun _ t _ => n - (intOf t).toNat)
  case atStart => exact ⟨0, _, none, 0, 0, by omega, rfl, rfl, rfl, by omega, OK2.out, rfl, gn_new l mi, S4.out⟩
  case round =>
  clear S4 OK2 OK1 OK0
  obtain ⟨i, s, B, cb, m, hi, rfl, rfl, hml, hmi', hok, hcl, hgn, sr⟩ := hrel
  have OK := Lib.hid hok
  have HCL := Lib.hid hcl
  have HG := Lib.hid hgn
  have HML := Lib.hid hml
  have SR := Lib.hid sr
  clear hok hcl hgn hml sr
  by_cases hin : i < n
  case pos =>
    have t1 : decide ((i : Int) < (n : Int)) = true := decide_eq_true (by omega)
    have t1' : decide (i < n) = true := decide_eq_true hin
    have hil : i < s.ceils.length := by rw [HCL.out, HL.out]; exact hin
    by_cases hmt : mi i = true
    · obtain ⟨s', hT1, hT2, hcl', hgn'⟩ := gn_take1 HG.out OK.out hil hmt
      have HT1 := Lib.hid hT1
      have HT2 := Lib.hid hT2
      have OK' := Lib.hid (hT1.ok OK.out)
      have HCL' := Lib.hid (hcl'.trans HCL.out)
      have HG' := Lib.hid hgn'
      have H1 := Lib.hid (h1_yes hmt)
      have hlt : i < n1 ∧ f i = true := by
        have h := hmt
        rw [HMI.out] at h
        simpa using h
      obtain ⟨g, off, rfl, _, hc⟩ := HR1.out (by omega)
      have e0 : wr.cell? ⟨g, off + i, none⟩ = some (.bool true) := by
        have h : w.cell? ⟨g, off + i, none⟩ = some (.bool (f i)) := hc i hlt.1
        rw [hlt.2] at h
        rw [SR.out.below.cell (block_lt h)]; exact h
      have i0 : (0 : Int) ≤ (i : Int) := by omega
      have i1 : (i : Int) < (n1 : Int) := by omega
      have u1 : decide ((i : Int) < (n1 : Int)) = true := decide_eq_true (by omega)
      have u1' : decide (i < n1) = true := decide_eq_true (by omega)
      have s2 := SR.out.alloc (.cells #[.int .i64 (i : Int)] 3)
      have HL2 := Lib.hid (s2.lis 1 rfl)
      have RB := Lib.hid (show Rds (wr.alloc (.cells #[.int .i64 (i : Int)] 3)) (some ⟨wr.heap.size, 0, none⟩) 1 1 (ivs [i]) from rds_box wr _ _)
      have S2 := Lib.hid s2
      have HAP := Lib.hid (show ivs (h1 mi i) ++ ivs [i] = ivs (h1 mi (i + 1)) by rw [H1.out, ivs_app])
      have HML' := Lib.hid (show m + 1 = (h1 mi (i + 1)).length by rw [H1.out, List.length_append, ← HML.out]; rfl)
      clear hT1 hT2 hcl' hgn' hmt hlt hc s2
      go_wp2_with (at_builtin; refine wpList_lis rfl (.tmp 58) (.tmp 60) 34 rfl 3 iI (.int .i64 0) 1 8 Try.underlying34 hiI hzI hsI hbI rfl (by decide) _ _ _ rfl HL2.out _ 1 1 (ivs [i]) rfl RB.out (ivs_one _) (by unfold maxLen; omega) (by omega) ?_; intro D cD w5 hl hg hat; have t5 := S2.out.lis_put 1 rfl hl hg hat; rw [HAP.out] at t5; have S5 := Lib.hid (show St w None w5 [KR k 2 s, LisR 3 1 (.slice D (m + 1) cD) (m + 1) (ivs (h1 mi (i + 1)))] from t5); have TC := Lib.hid (show Calls Try.prog 14 #[.pointer (some ⟨k, 0, none⟩), .int .i64 1, .int .i64 (i : Int)] w5 _ from Take_o S5.out 0 rfl OK.out (i := 1) (by decide) HT1.out); clear hl hg hat t5 e0)
      refine TC.out.mono ?_
      rintro r w6 ⟨rfl, s6⟩
      have TD := Lib.hid (show Calls Try.prog 14 #[.pointer (some ⟨k, 0, none⟩), .int .i64 2, .int .i64 (i : Int)] w6 _ from Take_o s6 0 rfl OK'.out (i := 2) (by decide) HT2.out)
      clear TC s6
      go_wp2_with fail
      refine TD.out.mono ?_
      rintro r w7 ⟨rfl, s7⟩
      have S7 := Lib.hid (show St w None w7 [KR k 2 s', LisR 3 1 (.slice D (m + 1) cD) (m + 1) (ivs (h1 mi (i + 1)))] from s7)
      clear TD s7
      go_wp2_with fail
      go_roundw
      case rel => exact ⟨i + 1, s', D, cD, m + 1, by omega, by go_num, rfl, HML'.out, by omega, OK'.out, HCL'.out, HG'.out, S7.out⟩
      case measure => simp [intOf]; omega
    · have hmf : mi i = false := by simpa using hmt
      obtain ⟨s', hT1, hT2, hcl', hgn'⟩ := gn_take2 HG.out OK.out hil hmf
      have HT1 := Lib.hid hT1
      have HT2 := Lib.hid hT2
      have OK' := Lib.hid (hT1.ok OK.out)
      have HCL' := Lib.hid (hcl'.trans HCL.out)
      have HG' := Lib.hid hgn'
      have H1 := Lib.hid (h1_no hmf)
      have HML' := Lib.hid (show m = (h1 mi (i + 1)).length by rw [H1.out, ← HML.out])
      have TC := Lib.hid (show Calls Try.prog 14 #[.pointer (some ⟨k, 0, none⟩), .int .i64 2, .int .i64 (i : Int)] wr _ from Take_o SR.out 0 rfl OK.out (i := 2) (by decide) HT1.out)
      have HMF := Lib.hid hmf
      clear hT1 hT2 hcl' hgn' hmt hmf
      have fin : ∀ w7, St w None w7 [KR k 2 s', LisR 3 1 (.slice B m cb) m (ivs (h1 mi i))] → St w None w7 [KR k 2 s', LisR 3 1 (.slice B m cb) m (ivs (h1 mi (i + 1)))] := fun w7 h => by rw [H1.out]; exact h
      have FIN := Lib.hid fin
      clear fin
      by_cases hlt : i < n1
      · have hff : f i = false := by
          have h := HMF.out
          rw [HMI.out] at h
          simpa [hlt] using h
        obtain ⟨g, off, rfl, _, hc⟩ := HR1.out (by omega)
        have e0 : wr.cell? ⟨g, off + i, none⟩ = some (.bool false) := by
          have h : w.cell? ⟨g, off + i, none⟩ = some (.bool (f i)) := hc i hlt
          rw [hff] at h
          rw [SR.out.below.cell (block_lt h)]; exact h
        have i0 : (0 : Int) ≤ (i : Int) := by omega
        have i1 : (i : Int) < (n1 : Int) := by omega
        have u1 : decide ((i : Int) < (n1 : Int)) = true := decide_eq_true (by omega)
        have u1' : decide (i < n1) = true := decide_eq_true (by omega)
        clear hff hc
        go_wp2_with fail
        clear e0
        refine TC.out.mono ?_
        rintro r w6 ⟨rfl, s6⟩
        have TD := Lib.hid (show Calls Try.prog 14 #[.pointer (some ⟨k, 0, none⟩), .int .i64 1, .int .i64 (i : Int)] w6 _ from Take_o s6 0 rfl OK'.out (i := 1) (by decide) HT2.out)
        clear TC s6
        go_wp2_with fail
        refine TD.out.mono ?_
        rintro r w7 ⟨rfl, s7⟩
        have S7 := Lib.hid (FIN.out w7 s7)
        clear TD s7
        go_wp2_with fail
        go_roundw
        case rel => exact ⟨i + 1, s', B, cb, m, by omega, by go_num, rfl, HML'.out, by omega, OK'.out, HCL'.out, HG'.out, S7.out⟩
        case measure => simp [intOf]; omega
      · have u1 : decide ((i : Int) < (n1 : Int)) = false := decide_eq_false (by omega)
        have u1' : decide (i < n1) = false := decide_eq_false hlt
        go_wp2_with fail
        refine TC.out.mono ?_
        rintro r w6 ⟨rfl, s6⟩
        have TD := Lib.hid (show Calls Try.prog 14 #[.pointer (some ⟨k, 0, none⟩), .int .i64 1, .int .i64 (i : Int)] w6 _ from Take_o s6 0 rfl OK'.out (i := 1) (by decide) HT2.out)
        clear TC s6
        go_wp2_with fail
        refine TD.out.mono ?_
        rintro r w7 ⟨rfl, s7⟩
        have S7 := Lib.hid (FIN.out w7 s7)
        clear TD s7
        go_wp2_with fail
        go_roundw
        case rel => exact ⟨i + 1, s', B, cb, m, by omega, by go_num, rfl, HML'.out, by omega, OK'.out, HCL'.out, HG'.out, S7.out⟩
        case measure => simp [intOf]; omega
  obtain rfl : i = n := by omega
  have t1 : decide ((i : Int) < (i : Int)) = false := decide_eq_false (by omega)
  have t1' : decide (i < i) = false := decide_eq_false (by omega)
  have GC := Lib.hid (show Calls Try.prog 16 #[.pointer (some ⟨k, 0, none⟩), .int .i64 1] wr (fun e w' => ∃ C d, e = .returned (.slice C m d) ∧ St w None w' [KR k 2 (s.set 1 none), LisR 3 1 (.slice B m cb) m (ivs (h1 mi i)), LisR 3 1 (.slice C m d) m (ivs (h1 mi i).reverse)]) by
    have h := Gone_o SR.out 0 rfl OK.out (i := 1) HG.out.1
    rw [show (⟨100, h1 mi i⟩ : Mb).held.length = m from HML.out.symm] at h
    exact h)
  have OK' := Lib.hid (OK.out.gone 1)
  have HHO := Lib.hid (fun x (hx : x < i) j => gn_holder HG.out hx j)
  have SRB := Lib.hid SR.out.below
  have HG1 := Lib.hid (show (s.set 1 none).mem 1 = none from rfl)
  clear hin SR
  go_wp2_with fail
  refine GC.out.mono ?_
  rintro r w5 ⟨C, d, rfl, s5⟩
  have S5 := Lib.hid s5
  have z1 : ((m : Int) != (m : Int)) = false := by simp
  have z1' : (m != m) = false := by simp
  clear GC s5
  go_wp2_with fail
  go_loopw [11] (fun t wr => ∃ j : Nat, j ≤ m ∧ t = .int .i64 (j : Int) ∧ St w None wr [KR k 2 (s.set 1 none), LisR 3 1 (.slice B m cb) m (ivs (h1 mi i)), LisR 3 1 (.slice C m d) m (ivs (h1 mi i).reverse)]) (fun t _ => m - (intOf t).toNat)
  case atStart => exact ⟨0, by omega, rfl, S5.out⟩
  case round =>
  clear S5
  obtain ⟨j, hj, rfl, sr⟩ := hrel
  by_cases hjm : j < m
  case pos =>
    have t2 : decide ((j : Int) < (m : Int)) = true := decide_eq_true (by omega)
    have t2' : decide (j < m) = true := decide_eq_true hjm
    obtain ⟨u, hu⟩ : ∃ u, u = m - 1 - j := ⟨_, rfl⟩
    obtain ⟨x, hx⟩ : ∃ x, (h1 mi i)[u]? = some x := ⟨_, List.getElem?_eq_getElem (by rw [← HML.out]; omega)⟩
    have hx2 : (h1 mi i).reverse[j]? = some x := by
      rw [List.getElem?_reverse (by rw [← HML.out]; omega), ← HML.out, ← hu]; exact hx
    obtain ⟨g1, o1, rfl, hc1⟩ := (sr.lis 1 rfl).at_ (by omega)
    obtain ⟨g2, o2, rfl, hc2⟩ := (sr.lis 2 rfl).at_ (by omega)
    have a1 := hc1 u _ (ivs_get hx)
    have a2 := hc2 j _ (ivs_get hx2)
    have z2 : ((x : Int) != (x : Int)) = false := by simp
    have z2' : (x != x) = false := by simp
    have hw1 : IntKind.i64.wrap ((m : Int) - 1) = (m : Int) - 1 := IntWalk.i64_in _ ⟨by omega, by omega⟩
    have hw2 : IntKind.i64.wrap ((m : Int) - 1 - (j : Int)) = (u : Int) := by
      rw [IntWalk.i64_in _ ⟨by omega, by omega⟩]; omega
    have j0 : (0 : Int) ≤ (j : Int) := by omega
    have j1 : (j : Int) < (m : Int) := by omega
    have u0 : (0 : Int) ≤ (u : Int) := by omega
    have u1 : (u : Int) < (m : Int) := by omega
    have SR2 := Lib.hid sr
    clear hx hx2 hc1 hc2 sr hu
    go_wp2_with fail
    go_quiet (fail)
    clear hw1 hw2
    go_wp2_with fail
    go_roundw
    case rel => exact ⟨j + 1, by omega, by go_num, SR2.out.drewN _⟩
    case measure => simp [intOf]; omega
  have t2 : decide ((j : Int) < (m : Int)) = false := decide_eq_false (by omega)
  have t2' : decide (j < m) = false := decide_eq_false hjm
  have S6 := Lib.hid (sr.take 1)
  clear sr hjm
  go_wp2_with fail
  go_loopw [12] (fun t wr => ∃ j : Nat, j ≤ i ∧ t = .int .i64 (j : Int) ∧ St w None wr [KR k 2 (s.set 1 none)]) (fun t _ => i - (intOf t).toNat)
  case atStart => exact ⟨0, by omega, rfl, S6.out⟩
  case round =>
  clear S6
  obtain ⟨q, hq, rfl, sr⟩ := hrel
  have SR := Lib.hid sr
  clear sr
  by_cases hqi : q < i
  case pos =>
    have t3 : decide ((q : Int) < (i : Int)) = true := decide_eq_true (by omega)
    have t3' : decide (q < i) = true := decide_eq_true hqi
    cases hmq : mi q with
    | true =>
      have HC := Lib.hid (Holder_o SR.out 0 rfl OK'.out q none (fun j => by have := HHO.out q hqi j; rw [hmq] at this; exact this))
      have hlt : q < n1 ∧ f q = true := by
        have h := hmq
        rw [HMI.out] at h
        simpa using h
      obtain ⟨g, off, rfl, _, hc⟩ := HR1.out (by omega)
      have CE := Lib.hid (show ∀ W, Below w.heap.size w W → W.cell? ⟨g, off + q, none⟩ = some (.bool true) from fun W K => by
        have h : w.cell? ⟨g, off + q, none⟩ = some (.bool (f q)) := hc q hlt.1
        rw [hlt.2] at h
        rw [K.cell (block_lt h)]; exact h)
      have i0 : (0 : Int) ≤ (q : Int) := by omega
      have i1 : (q : Int) < (n1 : Int) := by omega
      have u1 : decide ((q : Int) < (n1 : Int)) = true := decide_eq_true (by omega)
      have u1' : decide (q < n1) = true := decide_eq_true (by omega)
      clear hmq hlt hc
      go_wp2_with fail
      refine HC.out.mono ?_
      rintro r w6 ⟨rfl, hb⟩
      have s6 := SR.out.stay hb
      have e0 := CE.out w6 s6.below
      have S6 := Lib.hid s6
      clear s6 hb
      go_wp2_with fail
      go_roundw
      case rel => exact ⟨q + 1, by omega, by go_num, S6.out⟩
      case measure => simp [intOf]; omega
    | false =>
      have HC := Lib.hid (show Calls Try.prog 17 #[.pointer (some ⟨k, 0, none⟩), .int .i64 (q : Int)] wr (fun e w' => e = .returned (.tuple #[.int .i64 2, .bool true]) ∧ Below wr.heap.size wr w') from Holder_o SR.out 0 rfl OK'.out q (some 2) (fun j => by have := HHO.out q hqi j; rw [hmq] at this; exact this))
      by_cases hlt : q < n1
      · have hff : f q = false := by
          have h := hmq
          rw [HMI.out] at h
          simpa [hlt] using h
        obtain ⟨g, off, rfl, _, hc⟩ := HR1.out (by omega)
        have CE := Lib.hid (show ∀ W, Below w.heap.size w W → W.cell? ⟨g, off + q, none⟩ = some (.bool false) from fun W K => by
          have h : w.cell? ⟨g, off + q, none⟩ = some (.bool (f q)) := hc q hlt
          rw [hff] at h
          rw [K.cell (block_lt h)]; exact h)
        have i0 : (0 : Int) ≤ (q : Int) := by omega
        have i1 : (q : Int) < (n1 : Int) := by omega
        have u1 : decide ((q : Int) < (n1 : Int)) = true := decide_eq_true (by omega)
        have u1' : decide (q < n1) = true := decide_eq_true (by omega)
        clear hmq hff hc
        go_wp2_with fail
        refine HC.out.mono ?_
        rintro r w6 ⟨rfl, hb⟩
        have s6 := SR.out.stay hb
        have e0 := CE.out w6 s6.below
        have S6 := Lib.hid s6
        clear s6 hb
        go_wp2_with fail
        go_roundw
        case rel => exact ⟨q + 1, by omega, by go_num, S6.out⟩
        case measure => simp [intOf]; omega
      · have u1 : decide ((q : Int) < (n1 : Int)) = false := decide_eq_false (by omega)
        have u1' : decide (q < n1) = false := decide_eq_false hlt
        clear hmq
        go_wp2_with fail
        refine HC.out.mono ?_
        rintro r w6 ⟨rfl, hb⟩
        have S6 := Lib.hid (SR.out.stay hb)
        clear hb
        go_wp2_with fail
        go_roundw
        case rel => exact ⟨q + 1, by omega, by go_num, S6.out⟩
        case measure => simp [intOf]; omega
  have t3 : decide ((q : Int) < (i : Int)) = false := decide_eq_false (by omega)
  have t3' : decide (q < i) = false := decide_eq_false hqi
  have PC := Lib.hid (show Calls Try.prog 13 #[.pointer (some ⟨k, 0, none⟩), .int .i64 1] wr (fun e w' => e = .returned (.tuple #[.int .i64 0, .int .i64 6]) ∧ wr = w') from PrioN_o SR.out 0 rfl (i := 1) (by decide) HG1.out)
  have HC := Lib.hid (show Calls Try.prog 10 #[.pointer (some ⟨k, 0, none⟩), .int .i64 1] wr (fun e w' => e = .returned (.slice none 0 0) ∧ wr = w') from HeldN_o SR.out 0 rfl (i := 1) (by decide) HG1.out)
  have TC := Lib.hid (show Calls Try.prog 14 #[.pointer (some ⟨k, 0, none⟩), .int .i64 1, .int .i64 0] wr (fun e w' => e = .returned (.int .i64 6) ∧ St w None w' [KR k 2 (s.set 1 none)]) from Take_o SR.out 0 rfl OK'.out (i := 1) (by decide) (Or.inr ⟨0, rfl, by show 0 < s.ceils.length; rw [HCL.out, HL.out]; omega, Or.inl ⟨HG1.out, rfl, rfl⟩⟩))
  clear hqi
  go_wp2_with fail
  refine PC.out.mono ?_
  rintro r w6 ⟨rfl, rfl⟩
  go_wp2_with fail
  refine HC.out.mono ?_
  rintro r w6 ⟨rfl, rfl⟩
  go_wp2_with fail
  refine TC.out.mono ?_
  rintro r w6 ⟨rfl, s6⟩
  have S6 := Lib.hid s6.below
  clear s6 TC
  go_wp2_with fail
  go_ret
  exact ⟨rfl, S6.out⟩

set_option maxRecDepth 100000 in
theorem lifted (os : Os) (started : os.Started) (H : Type) (enc : TypeId × Value → H) :
    ReturnsInHanded {} Try.checked os 5 .any (Rows.lockGoneSpec.pre6 enc Try.prog Try.f5 Rows.lockGoneRow.domain false) (Rows.lockGoneSpec.post enc Try.prog Try.f5 false true false false) := by
  refine law_lifted (C := Try.checked) (tb := 4) own started (by kernel_rfl) Try.func5
    (ChangeSpec.witness6 (enc := enc) (C := Try.checked) false ⟨#[], #[.slice none 0 0, .slice none 0 0], []⟩ 8 (by kernel_rfl) (by kernel_rfl) (by kernel_rfl) (by kernel_rfl)) laid (by kernel_rfl) (by kernel_rfl) Try.underlying4 rfl ?_
  intro W base args ds ps hval0 hA0 hlt
  have hval : ∀ (j : Nat) t v, Try.f5.params[j]? = some t → args[j]? = some v → Value.okWide Try.prog W .any base t v := hval0
  have hA : DataW.TrodAll enc Try.prog W 0 (fun _ => true) true Try.f5.params.toList args.toList ds ps := hA0
  clear hA0 hval0
  rw [Try.params5] at hA hval
  obtain ⟨v0, vs0, d0, ds0, p0, q0, hargs, rfl, rfl, h0, r0⟩ := trodAll_cons hA
  obtain ⟨v1, vs1, d1, ds1, p1, q1, rfl, rfl, rfl, h1, r1⟩ := trodAll_cons r0
  obtain ⟨rfl, rfl, rfl⟩ := trodAll_nil r1
  obtain rfl : args = #[v0, v1] := by cases args; simp_all
  obtain ⟨A0, n0, cap0, V0, rfl, le0, mx0, rd0, fl0⟩ := open_slice_flat (m := 1) Try.underlying22 Try.underlying42 (by kernel_rfl) rfl (by decide) (fun i f h => by match i, h with | 0, h => cases h; exact ⟨rfl, by kernel_rfl⟩ | n + 1, h => simp at h) (hval 0 22 v0 rfl rfl) h0
  have f0_0 := (fl0 0 _ rfl).1 _ Try.underlying3
  obtain ⟨A1, n1, cap1, f1, rfl, le1, mx1, rd1⟩ := open_slice_bools Try.underlying31 Try.underlying4 (by kernel_rfl) (hval 1 31 v1 rfl rfl) h1
  refine ⟨⟨rfl, rfl, rfl⟩, ?_⟩
  exact walk A0 n0 cap0 V0 A1 n1 cap1 f1 W (by omega) (by omega) rd0 (fun j hj => by
    obtain ⟨z, h0, -⟩ := f0_0 j hj
    exact ⟨z, h0⟩) rd1

theorem over : Rows.lockGoneRow.holds Try.pinned (OpenSpec.ofChange Rows.lockGoneSpec) :=
  OpenClaim.holds_of_wide 5 Try.f5 rfl rfl rfl rfl rfl rfl rfl ⟨rfl, rfl, rfl, rfl, rfl⟩ rfl rfl rfl rfl rfl (by kernel_rfl) Try.func5 (by kernel_rfl)
    (of_decide_eq_true (by kernel_rfl)) (by unfold Func.isWrapper; first | (rw [if_pos (by decide +kernel)]; kernel_rfl) | (rw [if_neg (by decide +kernel)]; exact ⟨rfl, rfl⟩))
    (fun os started H enc _ => lifted os started H enc)
theorem proved : Rows.LockGoneSaid := over
#print axioms proved
end Go.Proofs.Ytpfodchdpafofaa.lockGone
