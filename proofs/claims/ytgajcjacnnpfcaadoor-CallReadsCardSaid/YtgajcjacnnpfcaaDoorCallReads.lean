/-
  For every two texts CallReads answers true, and changes nothing: a line of at most 500 bytes has the words, and is the command, that the document says, or is refused; every word is the number that it says, or none. Condition: the tables that the row lists hold what the program's text lays in them.
-/
import Derived.Test.YtgajcjacnnpfcaaDoorRows
import Derived.Test.YtgajcjacnnpfcaaDoorFr
import Derived.Test.YtgajcjacnnpfcaaDoorFrL
import Derived.Test.YtgajcjacnnpfcaaDoorCards
import Derived.Test.YtgajcjacnnpfcaaDoorTie
import Derived.SevenTiedAt
import Derived.Test.YtgajcjacnnpfcaaDoorCalU
namespace Go.Proofs.YtgajcjacnnpfcaaDoor.callReads
open Go.ChangeShapes Go.WideShapes Go.ChangeAt Go.RowKit
set_option linter.unusedVariables false
theorem own : ownKnob Tryd.prog.godebug = none := by kernel_rfl
theorem laid : laidOutB Tryd.prog = true := by kernel_rfl
theorem walk (a0 a1 : ByteArray) (W : World) (hT : TabB W.heap.size W) :
    Calls Tryd.prog 3 #[.string a0, .string a1] W fun e W' => e = .returned (.bool true) ∧ Below W.heap.size W W' := by
  have KA := Lib.hid (awake_c W hT)
  clear hT
  by_cases h1 : (500 : Int) < (a0.size : Int)
  · have d1 : decide ((500 : Int) < (a0.size : Int)) = true := decide_eq_true h1
    go_enter Tryd.func3, Tryd.ntmps3
    go_wp2_with (go_at_call 8; refine KA.out.mono ?_; rintro e w1 ⟨rfl, hb1⟩)
    go_ret
    exact ⟨rfl, hb1⟩
  have d1 : decide ((500 : Int) < (a0.size : Int)) = false := decide_eq_false h1
  by_cases h2 : (500 : Int) < (a1.size : Int)
  · have d2 : decide ((500 : Int) < (a1.size : Int)) = true := decide_eq_true h2
    go_enter Tryd.func3, Tryd.ntmps3
    go_wp2_with (go_at_call 8; refine KA.out.mono ?_; rintro e w1 ⟨rfl, hb1⟩)
    go_ret
    exact ⟨rfl, hb1⟩
  have d2 : decide ((500 : Int) < (a1.size : Int)) = false := decide_eq_false h2
  have hsz : a0.size ≤ 500 := by omega
  have hwl := words_len a0
  have KP := Lib.hid (fun w => parse_o a0 w (by omega))
  have KR := Lib.hid (fun w => rparse_o a0 w (by omega))
  have KW := Lib.hid (fun w => words_o a0 w (by omega))
  have KV := Lib.hid (fun w => rwords_o a0 w (by omega))
  obtain ⟨us, hus⟩ : ∃ us, wordsB a0.data.toList = us := ⟨_, rfl⟩
  rw [hus] at KP KR KW KV hwl
  have hxl : (pX (parseB us)).length ≤ us.length := by
    cases hp : parseB us with
    | none => exact Nat.zero_le _
    | some p =>
      obtain ⟨n, r, rfl, _, _, h4⟩ := parseB_is (us := us) (by rw [hp]; rfl)
      rw [h4] at hp
      rw [← Option.some.inj hp]
      show (numsI r).length ≤ _
      rw [numsI_len, List.length_cons]; omega
  obtain ⟨nb, hnb⟩ : ∃ nb, pN (parseB us) = nb := ⟨_, rfl⟩
  obtain ⟨X, hX⟩ : ∃ X, pX (parseB us) = X := ⟨_, rfl⟩
  obtain ⟨cd, hcd⟩ : ∃ cd, pC (parseB us) = cd := ⟨_, rfl⟩
  rw [hX] at hxl
  rw [hnb, hX, hcd] at KP KR
  obtain ⟨k, hk⟩ : ∃ k, X.length = k := ⟨_, rfl⟩
  obtain ⟨N, hN⟩ : ∃ N, us.length = N := ⟨_, rfl⟩
  rw [hk] at KP KR hxl
  rw [hN] at KW KV hwl hxl
  have KN := Lib.hid (fun w => number_o a1 w)
  have KM := Lib.hid (fun w => rnumber_o a1 w)
  have KS := Lib.hid (fun w => nums_o a1 w)
  have KU := Lib.hid (fun w => rnums_o a1 w)
  obtain ⟨m, ok, hm⟩ : ∃ (m : Int) (ok : Bool), numV a1.data.toList = .tuple #[.int .i64 m, .bool ok] := ⟨_, _, rfl⟩
  obtain ⟨j, is, hj⟩ : ∃ (j : Int) (is : Bool), numsV a1.data.toList = .tuple #[.int .i64 j, .bool is] := ⟨_, _, rfl⟩
  rw [hm] at KN KM
  rw [hj] at KS KU
  clear hus hnb hX hcd hm hj h1 h2
  have y1 : (cd == cd) = true := beq_self_eq_true cd
  have y2 : (m == m) = true := beq_self_eq_true m
  have y3 : (ok == ok) = true := beq_self_eq_true ok
  have y4 : (j == j) = true := beq_self_eq_true j
  have y5 : (is == is) = true := beq_self_eq_true is
  have HK := Lib.hid hk
  have HN := Lib.hid hN
  clear hk hN
  go_enter Tryd.func3, Tryd.ntmps3
  go_wp2_with fail
  refine KA.out.mono ?_
  rintro e w1 ⟨rfl, hb1⟩
  have S1 := Lib.hid ((St.begin W).stay hb1)
  go_wp2_with fail
  refine (KP.out _).mono ?_
  rintro e w2 ⟨B2, c2, rfl, k2⟩
  obtain ⟨p1, hp1⟩ : ∃ a, w2.heap.size = a := ⟨_, rfl⟩
  have s2 := (S1.out.join k2).box 25 #[.string ⟨nb.toArray⟩, .slice B2 k c2]
  rw [hp1] at s2
  have S2 := Lib.hid s2
  clear s2
  go_wp2_with fail
  refine (KR.out _).mono ?_
  rintro e w3 ⟨B3, c3, rfl, k3⟩
  obtain ⟨p2, hp2⟩ : ∃ a, w3.heap.size = a := ⟨_, rfl⟩
  have s3 := (S2.out.join k3).box 25 #[.string ⟨nb.toArray⟩, .slice B3 k c3]
  rw [hp2] at s3
  have S3 := Lib.hid s3
  clear s3
  go_wp2_with fail
  refine (KN.out _).mono ?_
  rintro e w4 ⟨rfl, hb4⟩
  have S4 := Lib.hid (S3.out.stay hb4)
  go_wp2_with fail
  refine (KM.out _).mono ?_
  rintro e w5 ⟨rfl, rfl⟩
  go_wp2_with fail
  refine (KS.out _).mono ?_
  rintro e w5 ⟨rfl, rfl⟩
  go_wp2_with fail
  refine (KU.out _).mono ?_
  rintro e w5 ⟨rfl, rfl⟩
  go_wp2_with fail
  refine (KW.out _).mono ?_
  rintro e w6 ⟨B6, c6, rfl, k6⟩
  have S6 := Lib.hid (S4.out.join k6)
  go_wp2_with fail
  refine (KV.out _).mono ?_
  rintro e w7 ⟨B7, c7, rfl, k7⟩
  have S7 := Lib.hid (S6.out.join k7)
  have r6 := (S7.out.rdc 4 rfl).1.strs
  have r7 := (S7.out.rdc 5 rfl).1.strs
  have KT := Lib.hid (texts_o B6 B7 N N c6 c7 us us w7 HN.out HN.out (by omega) (by omega) r6 r7)
  rw [decide_eq_true (show us = us from rfl)] at KT
  clear r6 r7 k2 k3 k6 k7
  go_wp2_with fail
  refine KT.out.mono ?_
  rintro e w8 ⟨rfl, hb8⟩
  have S8 := Lib.hid (S7.out.stay hb8)
  obtain ⟨q0, q1⟩ := (S8.out.blk 1 rfl).two
  obtain ⟨q2, q3⟩ := (S8.out.blk 3 rfl).two
  have r2 := (S8.out.rdc 0 rfl).1.ints
  have r3 := (S8.out.rdc 2 rfl).1.ints
  have KE := Lib.hid (same_o nb nb B2 B3 k k c2 c3 X X w8 HK.out HK.out (by omega) (by omega) r2 r3)
  rw [decide_eq_true (show nb = nb ∧ X = X from ⟨rfl, rfl⟩)] at KE
  clear r2 r3
  go_wp2_with fail
  refine KE.out.mono ?_
  rintro e w9 ⟨rfl, hb9⟩
  go_wp2_with fail
  go_ret
  exact ⟨rfl, (S8.out.stay hb9).below⟩

theorem door_met (os : Os) (args : Array Value) : laidMetH Tryd.prog Rows.callReadsRow.laid ((World.doorLaid Tryd.prog 24 os).forCall (fun _ _ => 0) ⟨#[], args, []⟩).memory :=
  laidMetH_of_parts3 (fuel := 8) (laidMet_of_run' 8 (by kernel_rfl) (by kernel_rfl)) (by kernel_rfl) (by kernel_rfl)
set_option maxRecDepth 100000 in
theorem lifted (os : Os) (started : os.Started) (H : Type) (enc : TypeId × Value → H) :
    ReturnsInHanded {} Tryd.checked os 3 .any (fun w args => (Rows.callReadsSpec.pre enc Tryd.prog Tryd.f3 [] false w args ∧ laidMetH Tryd.prog Rows.callReadsRow.laid w) ∧ sizedMet enc Tryd.prog Tryd.f3 (OpenSpec.ofChange Rows.callReadsSpec) false w args) (Rows.callReadsSpec.post enc Tryd.prog Tryd.f3 false true false false) := by
  refine law_lifted_laid (C := Tryd.checked) (tb := 4) own started (by kernel_rfl) Tryd.func3
    (ChangeSpec.witness_shaped (enc := enc) (C := Tryd.checked) (os := os) (X := fun w _ => laidMetH Tryd.prog Rows.callReadsRow.laid w) false (World.doorLaid Tryd.prog 24 os) #[.string ByteArray.empty, .string ByteArray.empty] 8 rfl (World.shaped_of_RefB (by kernel_rfl) (by kernel_rfl)) (by kernel_rfl) (by kernel_rfl) (by kernel_rfl) (door_met os _)) laid (by kernel_rfl) (by kernel_rfl) Tryd.underlying4 rfl ?_
  intro W base args ds ps hval0 hA0 hlt hL
  have hval : ∀ (j : Nat) t v, Tryd.f3.params[j]? = some t → args[j]? = some v → Value.okWide Tryd.prog W .any base t v := hval0
  have hA : DataW.TrodAll enc Tryd.prog W 0 (fun _ => true) true Tryd.f3.params.toList args.toList ds ps := hA0
  clear hA0 hval0
  rw [Tryd.params3] at hA hval
  obtain ⟨v0, vs0, d0, ds0, p0, q0, hargs, rfl, rfl, h0, r0⟩ := trodAll_cons hA
  obtain ⟨v1, vs1, d1, ds1, p1, q1, rfl, rfl, rfl, h1, r1⟩ := trodAll_cons r0
  obtain ⟨rfl, rfl, rfl⟩ := trodAll_nil r1
  obtain rfl : args = #[v0, v1] := by cases args; simp_all
  obtain ⟨a0, rfl, rfl, rfl, w0⟩ := Go.ChangeMaps.open_string Tryd.underlying9 (hval 0 9 v0 rfl rfl) h0
  obtain ⟨a1, rfl, rfl, rfl, w1⟩ := Go.ChangeMaps.open_string Tryd.underlying9 (hval 1 9 v1 rfl rfl) h1
  refine ⟨⟨rfl, rfl, rfl⟩, ?_⟩
  exact walk a0 a1 W (tab_of hL)

theorem over : Rows.callReadsRow.holds Tryd.pinned (OpenSpec.ofChange Rows.callReadsSpec) :=
  OpenClaim.holds_of_wide 3 Tryd.f3 rfl rfl rfl rfl rfl rfl rfl ⟨rfl, rfl, rfl, rfl, rfl⟩ rfl rfl rfl rfl rfl (by kernel_rfl) Tryd.func3 (by kernel_rfl)
    (of_decide_eq_true (by kernel_rfl)) (by unfold Func.isWrapper; first | (rw [if_pos (by decide +kernel)]; kernel_rfl) | (rw [if_neg (by decide +kernel)]; exact ⟨rfl, rfl⟩))
    (fun os started H enc _ => lifted os started H enc)
theorem proved : Rows.CallReadsCardSaid :=
  Claim7.holds_tied_plain_at .later [] Rows.callReadsCard.laidKinds true Rows.callReadsCard.stood.harness Rows.callReadsCard.stood.looks
    over (fun _ h => by cases h) (by kernel_rfl) (fun _ h => by cases h) callReads_row_tie rfl ⟨rfl, rfl⟩ (by kernel_rfl) rfl
    (fun f fn hf hfn => by
      obtain rfl : f = 3 := Option.some.inj ((show Tryd.prog.funcNamed Rows.callReadsRow.func = some 3 by kernel_rfl).symm.trans hf) |>.symm
      obtain rfl : fn = Tryd.f3 := (Option.some.inj (Tryd.func3.symm.trans hfn)).symm
      exact ⟨by kernel_rfl, fun j t ht => by
        rw [Tryd.params3] at ht
        have hm : t ∈ [9, 9] := by simpa using Array.mem_of_getElem? ht
        have hall : ([9, 9].all fun u => !Tryd.prog.wantsStandIn u) = true := by kernel_rfl
        exact (show Tryd.prog.wantsStandIn t = false by simpa using List.all_eq_true.1 hall t hm)⟩)
    (by kernel_rfl)
#print axioms proved
end Go.Proofs.YtgajcjacnnpfcaaDoor.callReads
