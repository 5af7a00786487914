/-
  For every size, slot and generation TableSizes answers true, and changes nothing: a table has as many slots as it was made with, and none else. No condition.
-/
import Derived.Test.YtlpmnpmgehjmaaaRows
import Derived.Test.YtlpmnpmgehjmaaaFr
import Derived.Test.YtlpmnpmgehjmaaaTabO
import Derived.LoopTactic
namespace Go.Proofs.Ytlpmnpmgehjmaaa.tableSizes
open Go.ChangeShapes Go.WideShapes Go.ChangeAt Go.RowKit
set_option linter.unusedVariables false
theorem own : ownKnob Try.prog.godebug = none := by kernel_rfl
theorem laid : laidOutB Try.prog = true := by kernel_rfl
set_option maxRecDepth 100000
theorem small (z s c : Int) (w : World) (hz : z < 1 ∨ 1000 < z) :
    Calls Try.prog 8 #[.int .i64 z, .int .i64 s, .int .u64 c] w fun r w' => r = .returned (.bool true) ∧ Below w.heap.size w w' := by
  have na := Lib.hid (fun w => New_arg z w hz)
  by_cases h1 : z < 1
  · have d1 : decide (z < 1) = true := decide_eq_true h1
    clear hz
    go_enter Try.func8, Try.ntmps8
    go_wp2_with fail
    refine (awake_any _).mono ?_
    rintro r w1 ⟨rfl, hw1⟩
    go_wp2_with fail
    refine (na.out _).mono ?_
    rintro r w2 ⟨rfl, rfl⟩
    go_wp2_with fail
    go_ret
    exact ⟨rfl, hw1⟩
  · have d1 : decide (z < 1) = false := decide_eq_false h1
    have d2 : decide (1000 < z) = true := decide_eq_true (by omega)
    clear hz
    go_enter Try.func8, Try.ntmps8
    go_wp2_with fail
    refine (awake_any _).mono ?_
    rintro r w1 ⟨rfl, hw1⟩
    go_wp2_with fail
    refine (na.out _).mono ?_
    rintro r w2 ⟨rfl, rfl⟩
    go_wp2_with fail
    go_ret
    exact ⟨rfl, hw1⟩
/-- The first k slots hold their numbers. -/
def upto (k : Nat) : Nat → Option Int := fun j => if j < k then some (j : Int) else none
theorem upto_zero : (fun _ => none) = upto 0 := by funext j; simp [upto]
theorem upto_succ (k : Nat) : (fun j => if j = k then some (k : Int) else upto k j) = upto (k + 1) := by
  funext j
  unfold upto
  by_cases e : j = k
  · subst e; simp
  · rw [if_neg e]; by_cases h : j < k
    · rw [if_pos h, if_pos (by omega)]
    · rw [if_neg h, if_neg (by omega)]
theorem walk (z s c : Int) (w : World) (bz : -9223372036854775808 ≤ z ∧ z ≤ 9223372036854775807) (bs : -9223372036854775808 ≤ s ∧ s ≤ 9223372036854775807) (bc : 0 ≤ c ∧ c ≤ 18446744073709551615) :
    Calls Try.prog 8 #[.int .i64 z, .int .i64 s, .int .u64 c] w fun r w' => r = .returned (.bool true) ∧ Below w.heap.size w w' := by
  by_cases hz : z < 1 ∨ 1000 < z
  · exact small z s c w hz
  · obtain ⟨n, rfl⟩ : ∃ n : Nat, (n : Int) = z := ⟨z.toNat, by omega⟩
    have h0 : 1 ≤ n := by omega
    have hn : n ≤ 1000 := by omega
    have d1 : decide ((n : Int) < 1) = false := decide_eq_false (by omega)
    have d2 : decide (1000 < (n : Int)) = false := decide_eq_false (by omega)
    clear hz
    go_enter Try.func8, Try.ntmps8
    go_wp2_with fail
    refine (awake_o (St.begin w)).mono ?_
    rintro r w1 ⟨rfl, s1⟩
    go_wp2_with fail
    refine (New_o s1 h0 hn).mono ?_
    rintro r w2 ⟨t, rfl, s2⟩
    have hst : Stale n (fun _ => 1) (fun _ => none) s c := Or.inr (Or.inr (Or.inl rfl))
    have s3 : St w None _ [_, _] := s2.box 32 #[.int .i64 s, .int .u64 c]
    obtain ⟨b0, b1⟩ := (s3.blk 1 rfl).two
    go_wp2_with fail
    refine (Get_o s3 0 rfl hn (Or.inr ⟨hst, rfl, rfl⟩)).mono ?_
    rintro r w4 ⟨rfl, s4⟩
    clear b0 b1
    obtain ⟨b0, b1⟩ := (s4.blk 1 rfl).two
    go_wp2_with fail
    refine (Set_o s4 0 rfl hn (Or.inr ⟨hst, rfl, rfl⟩)).mono ?_
    rintro r w5 ⟨rfl, s5⟩
    rw [upto_zero] at s5
    generalize w2.heap.size = hb at *
    clear b0 b1 s1 s2 s3 s4
    go_wp2_with fail
    go_loopw [12] (fun i wr => ∃ k : Nat, k ≤ n ∧ k ≤ 30 ∧ i = .int .i64 k ∧ St w None wr [TabR t n (fun _ => 1) (upto k), BlkR hb 32 #[.int .i64 s, .int .u64 c]]) (fun i _ => 30 - (intOf i).toNat)
    case atStart => exact ⟨0, by omega, by omega, rfl, s5⟩
    case round =>
      obtain ⟨k, hk, hk3, rfl, sr⟩ := hrel
      by_cases hlt : k < n ∧ k < 30
      · obtain ⟨h1, h2⟩ := hlt
        have hP := Put_o1 (x := k) sr 0 rfl k hn h1 (fun j hj => ⟨j, by simp [upto, hj]⟩) (by simp [upto])
        rw [upto_succ] at hP
        have HP := Lib.hid hP
        clear hP
        go_wp2_with fail
        refine HP.out.mono ?_
        rintro r w6 ⟨rfl, s6⟩
        go_wp2
        go_roundw
        case rel => exact ⟨k + 1, by omega, by omega, by go_num, s6⟩
        case measure => simp [intOf]; omega
      · obtain ⟨b0, b1⟩ := (sr.blk 1 rfl).two
        by_cases hin : 0 ≤ s ∧ s < k ∧ c = 1
        · obtain ⟨q0, q1, rfl⟩ := hin
          obtain ⟨j, rfl⟩ : ∃ j : Nat, (j : Int) = s := ⟨s.toNat, by omega⟩
          have HG := Lib.hid (Get_o (s := j) (c := 1) (v := j) (f := 0) sr 0 rfl hn (Or.inl ⟨j, by omega, rfl, rfl, by simp [upto]; omega, rfl⟩))
          by_cases h1 : k < n
          all_goals
            go_wp2_with fail
            refine HG.out.mono ?_
            rintro r w7 ⟨rfl, s7⟩
            go_wp2
            all_goals (go_ret; exact ⟨rfl, s7.below⟩)
        · have hst : Stale n (fun _ => 1) (upto k) s c := by
            by_cases h0 : s < 0
            · exact Or.inl h0
            · by_cases hc : c = 1
              · exact Or.inr (Or.inr (Or.inl (by simp [upto]; omega)))
              · exact Or.inr (Or.inr (Or.inr (by simpa using Ne.symm hc)))
          by_cases h1 : k < n
          all_goals
            go_wp2_with fail
            refine (Get_o sr 0 rfl hn (Or.inr ⟨hst, rfl, rfl⟩)).mono ?_
            rintro r w7 ⟨rfl, s7⟩
            go_wp2
            all_goals (go_ret; exact ⟨rfl, s7.below⟩)

set_option maxRecDepth 100000 in
theorem lifted (os : Os) (started : os.Started) (H : Type) (enc : TypeId × Value → H) :
    ReturnsInHanded {} Try.checked os 8 .any (Rows.tableSizesSpec.pre6 enc Try.prog Try.f8 Rows.tableSizesRow.domain false) (Rows.tableSizesSpec.post enc Try.prog Try.f8 false true false false) := by
  refine law_lifted (C := Try.checked) (tb := 4) own started (by kernel_rfl) Try.func8
    (ChangeSpec.witness6 (enc := enc) (C := Try.checked) false ⟨#[], #[.int .i64 0, .int .i64 0, .int .u64 0], []⟩ 8 (by kernel_rfl) (by kernel_rfl) (by kernel_rfl) (by kernel_rfl)) laid (by kernel_rfl) (by kernel_rfl) Try.underlying4 rfl ?_
  intro W base args ds ps hval0 hA0 hlt
  have hval : ∀ (j : Nat) t v, Try.f8.params[j]? = some t → args[j]? = some v → Value.okWide Try.prog W .any base t v := hval0
  have hA : DataW.TrodAll enc Try.prog W 0 (fun _ => true) true Try.f8.params.toList args.toList ds ps := hA0
  clear hA0 hval0
  rw [Try.params8] at hA hval
  obtain ⟨v0, vs0, d0, ds0, p0, q0, hargs, rfl, rfl, h0, r0⟩ := trodAll_cons hA
  obtain ⟨v1, vs1, d1, ds1, p1, q1, rfl, rfl, rfl, h1, r1⟩ := trodAll_cons r0
  obtain ⟨v2, vs2, d2, ds2, p2, q2, rfl, rfl, rfl, h2, r2⟩ := trodAll_cons r1
  obtain ⟨rfl, rfl, rfl⟩ := trodAll_nil r2
  obtain rfl : args = #[v0, v1, v2] := by cases args; simp_all
  obtain ⟨a0, rfl, rfl, rfl, w0⟩ := open_int Try.underlying3 (hval 0 3 v0 rfl rfl) h0
  obtain ⟨a1, rfl, rfl, rfl, w1⟩ := open_int Try.underlying3 (hval 1 3 v1 rfl rfl) h1
  obtain ⟨a2, rfl, rfl, rfl, w2⟩ := open_int Try.underlying30 (hval 2 30 v2 rfl rfl) h2
  refine ⟨⟨rfl, rfl, rfl⟩, ?_⟩
  exact walk a0 a1 a2 W (bounds_i64 w0) (bounds_i64 w1) (bounds_u64 w2)

theorem over : Rows.tableSizesRow.holds Try.pinned (OpenSpec.ofChange Rows.tableSizesSpec) :=
  OpenClaim.holds_of_wide 8 Try.f8 rfl rfl rfl rfl rfl rfl rfl ⟨rfl, rfl, rfl, rfl, rfl⟩ rfl rfl rfl rfl rfl (by kernel_rfl) Try.func8 (by kernel_rfl)
    (of_decide_eq_true (by kernel_rfl)) (by unfold Func.isWrapper; first | (rw [if_pos (by decide +kernel)]; kernel_rfl) | (rw [if_neg (by decide +kernel)]; exact ⟨rfl, rfl⟩))
    (fun os started H enc _ => lifted os started H enc)
theorem proved : Rows.TableSizesSaid := over
#print axioms proved
end Go.Proofs.Ytlpmnpmgehjmaaa.tableSizes
