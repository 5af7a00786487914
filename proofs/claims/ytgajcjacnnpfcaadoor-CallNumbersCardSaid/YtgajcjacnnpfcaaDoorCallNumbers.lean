/-
  For every integer CallNumbers answers true, and changes nothing: each number from 0 to 2^31 - 1 is that of its digits; with a 0 ahead, a sign, or a letter behind they are none's. Condition: the tables that the row lists hold what the program's text lays in them.
-/
import Derived.Test.YtgajcjacnnpfcaaDoorRows
import Derived.Test.YtgajcjacnnpfcaaDoorFr
import Derived.Test.YtgajcjacnnpfcaaDoorFrL
import Derived.Test.YtgajcjacnnpfcaaDoorCards
import Derived.Test.YtgajcjacnnpfcaaDoorTie
import Derived.SevenTiedAt
import Derived.Test.YtgajcjacnnpfcaaDoorCalU
namespace Go.Proofs.YtgajcjacnnpfcaaDoor.callNumbers
open Go.ChangeShapes Go.WideShapes Go.ChangeAt Go.RowKit
set_option linter.unusedVariables false
theorem own : ownKnob Tryd.prog.godebug = none := by kernel_rfl
theorem laid : laidOutB Tryd.prog = true := by kernel_rfl
/-- The numbers of four texts made of one that is not empty. -/
theorem four_no (l : List UInt8) (h : l ≠ []) : mayN (48 :: l) = false ∧ mayN (43 :: l) = false ∧ mayN (l ++ [120]) = false ∧ mayN (l ++ [32]) = false :=
  ⟨mayN_zero l h, mayN_bad List.mem_cons_self (by decide), mayN_bad (b := 120) (by simp) (by decide), mayN_bad (b := 32) (by simp) (by decide)⟩
theorem num_ahead (b : UInt8) (l : List UInt8) (w : World) (h : mayN (b :: l) = false) : Calls Tryd.prog 11 #[.string ((⟨#[b]⟩ : ByteArray) ++ (⟨l.toArray⟩ : ByteArray))] w fun e w' => e = .returned (.tuple #[.int .i64 0, .bool false]) ∧ Below w.heap.size w w' := by
  have := number_o ((⟨#[b]⟩ : ByteArray) ++ (⟨l.toArray⟩ : ByteArray)) w
  rw [show ((⟨#[b]⟩ : ByteArray) ++ (⟨l.toArray⟩ : ByteArray)).data.toList = b :: l by rw [ByteArray.data_append, Array.toList_append]; rfl, numV_no h] at this
  exact this
theorem num_behind (b : UInt8) (l : List UInt8) (w : World) (h : mayN (l ++ [b]) = false) : Calls Tryd.prog 11 #[.string ((⟨l.toArray⟩ : ByteArray) ++ (⟨#[b]⟩ : ByteArray))] w fun e w' => e = .returned (.tuple #[.int .i64 0, .bool false]) ∧ Below w.heap.size w w' := by
  have := number_o ((⟨l.toArray⟩ : ByteArray) ++ (⟨#[b]⟩ : ByteArray)) w
  rw [show ((⟨l.toArray⟩ : ByteArray) ++ (⟨#[b]⟩ : ByteArray)).data.toList = l ++ [b] by rw [ByteArray.data_append, Array.toList_append], numV_no h] at this
  exact this
theorem walk (a0 : Int) (W : World) (w0 : -9223372036854775808 ≤ a0 ∧ a0 ≤ 9223372036854775807) (hT : TabB W.heap.size W) :
    Calls Tryd.prog 6 #[.int .i64 a0] W fun e W' => e = .returned (.bool true) ∧ Below W.heap.size W W' := by
  have KA := Lib.hid (awake_c W hT)
  clear hT
  by_cases h1 : a0 < -1099511627776
  · have d1 : decide (a0 < -1099511627776) = true := decide_eq_true h1
    go_enter Tryd.func6, Tryd.ntmps6
    go_wp2_with (go_at_call 8; refine KA.out.mono ?_; rintro e w1 ⟨rfl, hb1⟩)
    go_ret
    exact ⟨rfl, hb1⟩
  have d1 : decide (a0 < -1099511627776) = false := decide_eq_false h1
  by_cases h2 : (1099511627776 : Int) < a0
  · have d2 : decide ((1099511627776 : Int) < a0) = true := decide_eq_true h2
    go_enter Tryd.func6, Tryd.ntmps6
    go_wp2_with (go_at_call 8; refine KA.out.mono ?_; rintro e w1 ⟨rfl, hb1⟩)
    go_ret
    exact ⟨rfl, hb1⟩
  have d2 : decide ((1099511627776 : Int) < a0) = false := decide_eq_false h2
  obtain ⟨s, m, ok, hs, hne, hlen, hnum, e1, e2, e3⟩ : ∃ (s : List UInt8) (m : Int) (ok : Bool), (∀ w, Calls Tryd.prog 23 #[.int .i64 a0] w fun e w' => e = .returned (stV s) ∧ Below w.heap.size w w') ∧ s ≠ [] ∧ s.length ≤ 30 ∧ numV s = .tuple #[.int .i64 m, .bool ok] ∧ ok = (decide (0 ≤ a0) && decide (a0 ≤ 2147483647)) ∧ (ok = true → m = a0) ∧ (ok = false → m = 0) := by
    by_cases hz : 0 ≤ a0
    · obtain ⟨n, rfl⟩ : ∃ n : Nat, a0 = (n : Int) := ⟨a0.toNat, by omega⟩
      refine ⟨digs n, (numB (digs n) : Nat), mayN (digs n), fun w => rdigits_o n w (by omega), (digs_word n).1, Nat.le_trans (digs_max 19 n (by omega)) (by decide), rfl, ?_, fun h => ?_, fun h => ?_⟩
      · rw [mayN_digs, decide_eq_true hz, Bool.true_and]
        exact decide_eq_decide.2 (by omega)
      · unfold numB; rw [if_pos h, digs_val]
      · unfold numB; rw [if_neg (by rw [h]; exact Bool.false_ne_true)]; rfl
    · obtain ⟨n, rfl⟩ : ∃ n : Nat, a0 = -(n : Int) := ⟨(-a0).toNat, by omega⟩
      have hb : mayN (45 :: digs n) = false := mayN_bad List.mem_cons_self (by decide)
      refine ⟨45 :: digs n, 0, false, fun w => rdigits_neg n w (by omega) (by omega), fun e => (by cases e), ?_, numV_no hb, ?_, fun h => (by cases h), fun _ => rfl⟩
      · rw [List.length_cons]
        have := digs_max 19 n (by omega)
        omega
      · rw [decide_eq_false hz]; rfl
  have KD := Lib.hid hs
  have KN := Lib.hid (fun w => number_o ⟨s.toArray⟩ w)
  rw [show (⟨s.toArray⟩ : ByteArray).data.toList = s from rfl, hnum] at KN
  obtain ⟨f1, f2, f3, f4⟩ := four_no s hne
  have K1 := Lib.hid (fun w => num_ahead 48 s w f1)
  have K2 := Lib.hid (fun w => num_ahead 43 s w f2)
  have K3 := Lib.hid (fun w => num_behind 120 s w f3)
  have K4 := Lib.hid (fun w => num_behind 32 s w f4)
  clear f1 f2 f3 f4 hne hnum hs h1 h2
  have key : (decide (0 ≤ a0) = true ∧ decide (a0 ≤ 2147483647) = true ∧ ok = true ∧ m = a0) ∨ (decide (0 ≤ a0) = true ∧ decide (a0 ≤ 2147483647) = false ∧ ok = false ∧ m = 0) ∨ (decide (0 ≤ a0) = false ∧ ok = false ∧ m = 0) := by
    cases h3 : decide (0 ≤ a0) with
    | false => rw [h3] at e1; exact Or.inr (Or.inr ⟨rfl, e1, e3 e1⟩)
    | true =>
      cases h4 : decide (a0 ≤ 2147483647) with
      | false => rw [h3, h4] at e1; exact Or.inr (Or.inl ⟨rfl, rfl, e1, e3 e1⟩)
      | true => rw [h3, h4] at e1; exact Or.inl ⟨rfl, rfl, e1, e2 e1⟩
  clear e1 e2 e3
  rcases key with ⟨k1, k2, rfl, rfl⟩ | ⟨k1, k2, rfl, rfl⟩ | ⟨k1, rfl, rfl⟩
  all_goals
    go_enter Tryd.func6, Tryd.ntmps6
    go_wp2_with fail
    refine KA.out.mono ?_
    rintro e w1 ⟨rfl, hb1⟩
    go_wp2_with fail
    refine (KD.out _).mono ?_
    rintro e w2 ⟨rfl, hb2⟩
    unfold stV
    go_wp2_with fail
    refine (KN.out _).mono ?_
    rintro e w3 ⟨rfl, hb3⟩
    go_wp2_with fail
    refine (K1.out _).mono ?_
    rintro e w4 ⟨rfl, hb4⟩
    go_wp2_with fail
    refine (K2.out _).mono ?_
    rintro e w5 ⟨rfl, hb5⟩
    go_wp2_with fail
    refine (K3.out _).mono ?_
    rintro e w6 ⟨rfl, hb6⟩
    go_wp2_with fail
    refine (K4.out _).mono ?_
    rintro e w7 ⟨rfl, hb7⟩
    go_wp2_with fail
    go_ret
    exact ⟨rfl, below_then (below_then (below_then (below_then (below_then (below_then hb1 hb2) hb3) hb4) hb5) hb6) hb7⟩

theorem door_met (os : Os) (args : Array Value) : laidMetH Tryd.prog Rows.callNumbersRow.laid ((World.doorLaid Tryd.prog 24 os).forCall (fun _ _ => 0) ⟨#[], args, []⟩).memory :=
  laidMetH_of_parts3 (fuel := 8) (laidMet_of_run' 8 (by kernel_rfl) (by kernel_rfl)) (by kernel_rfl) (by kernel_rfl)
set_option maxRecDepth 100000 in
theorem lifted (os : Os) (started : os.Started) (H : Type) (enc : TypeId × Value → H) :
    ReturnsInHanded {} Tryd.checked os 6 .any (fun w args => (Rows.callNumbersSpec.pre enc Tryd.prog Tryd.f6 [] false w args ∧ laidMetH Tryd.prog Rows.callNumbersRow.laid w) ∧ sizedMet enc Tryd.prog Tryd.f6 (OpenSpec.ofChange Rows.callNumbersSpec) false w args) (Rows.callNumbersSpec.post enc Tryd.prog Tryd.f6 false true false false) := by
  refine law_lifted_laid (C := Tryd.checked) (tb := 4) own started (by kernel_rfl) Tryd.func6
    (ChangeSpec.witness_shaped (enc := enc) (C := Tryd.checked) (os := os) (X := fun w _ => laidMetH Tryd.prog Rows.callNumbersRow.laid w) false (World.doorLaid Tryd.prog 24 os) #[.int .i64 0] 8 rfl (World.shaped_of_RefB (by kernel_rfl) (by kernel_rfl)) (by kernel_rfl) (by kernel_rfl) (by kernel_rfl) (door_met os _)) laid (by kernel_rfl) (by kernel_rfl) Tryd.underlying4 rfl ?_
  intro W base args ds ps hval0 hA0 hlt hL
  have hval : ∀ (j : Nat) t v, Tryd.f6.params[j]? = some t → args[j]? = some v → Value.okWide Tryd.prog W .any base t v := hval0
  have hA : DataW.TrodAll enc Tryd.prog W 0 (fun _ => true) true Tryd.f6.params.toList args.toList ds ps := hA0
  clear hA0 hval0
  rw [Tryd.params6] at hA hval
  obtain ⟨v0, vs0, d0, ds0, p0, q0, hargs, rfl, rfl, h0, r0⟩ := trodAll_cons hA
  obtain ⟨rfl, rfl, rfl⟩ := trodAll_nil r0
  obtain rfl : args = #[v0] := by cases args; simp_all
  obtain ⟨a0, rfl, rfl, rfl, w0⟩ := open_int Tryd.underlying3 (hval 0 3 v0 rfl rfl) h0
  refine ⟨⟨rfl, rfl, rfl⟩, ?_⟩
  exact walk a0 W (bounds_i64 w0) (tab_of hL)

theorem over : Rows.callNumbersRow.holds Tryd.pinned (OpenSpec.ofChange Rows.callNumbersSpec) :=
  OpenClaim.holds_of_wide 6 Tryd.f6 rfl rfl rfl rfl rfl rfl rfl ⟨rfl, rfl, rfl, rfl, rfl⟩ rfl rfl rfl rfl rfl (by kernel_rfl) Tryd.func6 (by kernel_rfl)
    (of_decide_eq_true (by kernel_rfl)) (by unfold Func.isWrapper; first | (rw [if_pos (by decide +kernel)]; kernel_rfl) | (rw [if_neg (by decide +kernel)]; exact ⟨rfl, rfl⟩))
    (fun os started H enc _ => lifted os started H enc)
theorem proved : Rows.CallNumbersCardSaid :=
  Claim7.holds_tied_plain_at .later [] Rows.callNumbersCard.laidKinds true Rows.callNumbersCard.stood.harness Rows.callNumbersCard.stood.looks
    over (fun _ h => by cases h) (by kernel_rfl) (fun _ h => by cases h) callNumbers_row_tie rfl ⟨rfl, rfl⟩ (by kernel_rfl) rfl
    (fun f fn hf hfn => by
      obtain rfl : f = 6 := Option.some.inj ((show Tryd.prog.funcNamed Rows.callNumbersRow.func = some 6 by kernel_rfl).symm.trans hf) |>.symm
      obtain rfl : fn = Tryd.f6 := (Option.some.inj (Tryd.func6.symm.trans hfn)).symm
      exact ⟨by kernel_rfl, fun j t ht => by
        rw [Tryd.params6] at ht
        have hm : t ∈ [3] := by simpa using Array.mem_of_getElem? ht
        have hall : ([3].all fun u => !Tryd.prog.wantsStandIn u) = true := by kernel_rfl
        exact (show Tryd.prog.wantsStandIn t = false by simpa using List.all_eq_true.1 hall t hm)⟩)
    (by kernel_rfl)
#print axioms proved
end Go.Proofs.YtgajcjacnnpfcaaDoor.callNumbers
