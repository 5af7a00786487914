/-
  For every three unsigned 32-bit numbers TickUpSum answers true, and changes nothing: a quotient rounded up of a sum is no more than those of its parts together, nor less than either. No condition.
-/
import Derived.Test.YtbhkghlgchoglaaRows
import Derived.WalkKit
import Derived.ProofKit
import Derived.OpenShut
import Derived.Test.YtbhkghlgchoglaaTickAw
import Derived.Test.YtbhkghlgchoglaaTickV
namespace Go.Proofs.Ytbhkghlgchoglaa.tickUpSum
open Go.ChangeShapes Go.WideShapes Go.ChangeAt Go.RowKit
set_option linter.unusedVariables false      -- a walk need not use every 'w<i>' (that an integer argument fits its kind)

theorem own : ownKnob Try.prog.godebug = none := by kernel_rfl

theorem sub_add {a b d : Int} (hd : 1 ≤ d) : tUp (a + b) d ≤ tUp a d + tUp b d ∧ tUp a d + tUp b d ≤ tUp (a + b) d + 1 := by
  have a1 := tUp_enough (n := a) hd
  have a2 := tUp_least (n := a) hd
  have b1 := tUp_enough (n := b) hd
  have b2 := tUp_least (n := b) hd
  have c1 := tUp_enough (n := a + b) hd
  have c2 := tUp_least (n := a + b) hd
  generalize tUp a d = x at *
  generalize tUp b d = y at *
  generalize tUp (a + b) d = z at *
  constructor
  · have h : (z - 1) * d < (x + y) * d := by rw [Int.add_mul]; omega
    have := Int.lt_of_mul_lt_mul_right h (by omega); omega
  · have h : (x + y - 2) * d < z * d := by rw [Int.sub_mul] at a2 b2; rw [Int.sub_mul, Int.add_mul]; omega
    have := Int.lt_of_mul_lt_mul_right h (by omega); omega
theorem up_zero {a d : Int} (h0 : 0 ≤ a) (hd : 1 ≤ d) : (tUp a d == 0) = (a == 0) := by
  have a1 := tUp_enough (n := a) hd
  have a2 := tUp_least (n := a) hd
  have a3 := tUp_nonneg h0 hd
  by_cases h : a = 0
  · subst h
    have : tUp 0 d < 1 := by
      have h : (tUp 0 d - 1) * d < 0 * d := by omega
      have := Int.lt_of_mul_lt_mul_right h (by omega); omega
    rw [beq_iff_eq.2 (show tUp 0 d = 0 by omega)]; rfl
  · have : tUp a d ≠ 0 := fun e => by rw [e] at a1; omega
    rw [beq_eq_false_iff_ne.2 this, beq_eq_false_iff_ne.2 h]
/-! ### STEP 1: THE WALK: the Go text returns true. 'Grown w w'': the world has at most new blocks (Derived/RowKit3.lean). Part the cases AHEAD of 'go_enter' where a test parts the walk; take each callee by a contract of your own. -/
theorem walk (a0 : Int) (a1 : Int) (a2 : Int) (w0 : (Lit.int .u32 a0).wf = true) (w1 : (Lit.int .u32 a1).wf = true) (w2 : (Lit.int .u32 a2).wf = true) (w : World) :
    Calls Try.prog 9 #[.int .u32 a0, .int .u32 a1, .int .u32 a2] w fun e w' => e = .returned (.bool true) ∧ Grown w w' := by
  have b0 := bounds_u32 w0
  have b1 := bounds_u32 w1
  have b2 := bounds_u32 w2
  by_cases hd : a2 = 0
  · subst hd
    go_enter Try.func9, Try.ntmps9
    go_wp2_with (first | (go_at_call 11; refine (awake_any _).mono ?_; rintro e w' ⟨rfl, rfl⟩) | (go_at_call 18; refine (up_0 _ _).mono ?_; rintro e w' ⟨rfl, rfl⟩))
    go_ret
    exact ⟨rfl, Grown.refl _⟩
  · have z0 : (a2 == 0) = false := beq_eq_false_iff_ne.2 hd
    obtain ⟨s1, s2⟩ := sub_add (a := a0) (b := a1) (show 1 ≤ a2 by omega)
    have m1 := tUp_mono (show 1 ≤ a2 by omega) (show a0 ≤ a0 + a1 by omega)
    have m2 := tUp_mono (show 1 ≤ a2 by omega) (show a1 ≤ a0 + a1 by omega)
    have p1 := tUp_nonneg b0.1 (show 1 ≤ a2 by omega)
    have p2 := tUp_nonneg b1.1 (show 1 ≤ a2 by omega)
    have q1 := tUp_le b0.1 (show 1 ≤ a2 by omega)
    have q2 := tUp_le b1.1 (show 1 ≤ a2 by omega)
    have u := Lib.hid (up_zero b0.1 (show 1 ≤ a2 by omega))
    have y1 := fun w => up_any a0 a2 w (by omega) (by omega) (by omega)
    have y2 := fun w => up_any a1 a2 w (by omega) (by omega) (by omega)
    have y3 := fun w => up_any (a0 + a1) a2 w (by omega) (by omega) (by omega)
    generalize tUp a0 a2 = x at *
    generalize tUp a1 a2 = y at *
    generalize tUp (a0 + a1) a2 = z at *
    have Y1 := Lib.hid y1
    have Y2 := Lib.hid y2
    have Y3 := Lib.hid y3
    clear y1 y2 y3 hd
    go_enter Try.func9, Try.ntmps9
    go_wp2_with (first | (go_at_call 11; refine (awake_any _).mono ?_; rintro e w' ⟨rfl, rfl⟩) | (go_at_call 18; ((with_reducible refine (Y1.out _).mono ?_); rintro e w' ⟨rfl, rfl⟩)) | (go_at_call 18; ((with_reducible refine (Y2.out _).mono ?_); rintro e w' ⟨rfl, rfl⟩)) | (go_at_call 18; ((with_reducible refine (Y3.out _).mono ?_); rintro e w' ⟨rfl, rfl⟩)))
    all_goals go_ret
    all_goals exact ⟨ret_bool (by rw [u.out]; simp), Grown.refl _⟩

/-! ### THE ROW's STEP: WRITTEN OUT: LEAVE IT -/
set_option maxRecDepth 100000 in
theorem lifted (os : Os) (started : os.Started) (H : Type) (enc : TypeId × Value → H) :
    ReturnsInHanded {} Try.checked os 9 .any (Rows.tickUpSumSpec.pre6 enc Try.prog Try.f9 Rows.tickUpSumRow.domain false) (Rows.tickUpSumSpec.post enc Try.prog Try.f9 false true false false) := by
  refine returnsInHanded_of_change (C := Try.checked) own started (by kernel_rfl) Try.func9
    (ChangeSpec.witness6 (enc := enc) (C := Try.checked) false ⟨#[], #[.int .u32 0, .int .u32 0, .int .u32 0], []⟩ 8 (by kernel_rfl) (by kernel_rfl) (by kernel_rfl) (by kernel_rfl)) ?_
  intro W base args ds gs before hval0 hW hcnd _
  have hval : ∀ (j : Nat) t v, Try.f9.params[j]? = some t → args[j]? = some v → Value.okWide Try.prog W .any base t v := hval0
  have hW' := hW
  obtain ⟨p, q, hA0, hV, rfl, hfz, hnd⟩ := hW
  have hA : DataW.TrodAll enc Try.prog W 0 (fun _ => true) true Try.f9.params.toList args.toList ds p := hA0
  rw [Try.params9] at hA hval
  obtain ⟨v0, vs0, d0, ds0, p0, q0, hargs, rfl, rfl, h0, r0⟩ := trodAll_cons hA
  obtain ⟨v1, vs1, d1, ds1, p1, q1, rfl, rfl, rfl, h1, r1⟩ := trodAll_cons r0
  obtain ⟨v2, vs2, d2, ds2, p2, q2, rfl, rfl, rfl, h2, r2⟩ := trodAll_cons r1
  obtain ⟨rfl, rfl, rfl⟩ := trodAll_nil r2
  obtain rfl : args = #[v0, v1, v2] := by cases args; simp_all
  obtain ⟨rfl, rfl⟩ := trodVars_none hV
  obtain ⟨a0, rfl, rfl, rfl, w0⟩ := open_int Try.underlying34 (hval 0 34 v0 rfl rfl) h0
  obtain ⟨a1, rfl, rfl, rfl, w1⟩ := open_int Try.underlying34 (hval 1 34 v1 rfl rfl) h1
  obtain ⟨a2, rfl, rfl, rfl, w2⟩ := open_int Try.underlying34 (hval 2 34 v2 rfl rfl) h2
  clear hA0 hval0
  simp only [List.append_nil] at hW'
  refine (walk a0 a1 a2 w0 w1 w2 W).mono fun e W' ⟨he, hg⟩ => ?_
  subst he
  exact ⟨_, rfl, post_of_same (pa := []) (pv := []) hW' (fun _ _ _ => (trodAll_cons_mk (shut_bool Try.underlying4 _) trodAll_mk0)) (fun sp _ => (trodAll_cons_mk (shut_int Try.underlying34 w0) (trodAll_cons_mk (shut_int Try.underlying34 w1) (trodAll_cons_mk (shut_int Try.underlying34 w2) trodAll_mk0)))) (fun _ _ => rfl) rfl
    (hg.frame _) hg.2.1 (ok_one (by kernel_rfl) rfl (okWide_bool_mk Try.underlying4 _))⟩

theorem over : Rows.tickUpSumRow.holds Try.pinned (OpenSpec.ofChange Rows.tickUpSumSpec) :=
  OpenClaim.holds_of_wide 9 Try.f9 rfl rfl rfl rfl rfl rfl rfl ⟨rfl, rfl, rfl, rfl, rfl⟩ rfl rfl rfl rfl rfl (by kernel_rfl) Try.func9 (by kernel_rfl)
    (of_decide_eq_true (by kernel_rfl)) (by unfold Func.isWrapper; first | (rw [if_pos (by decide +kernel)]; kernel_rfl) | (rw [if_neg (by decide +kernel)]; exact ⟨rfl, rfl⟩))
    (fun os started H enc _ => lifted os started H enc)

/-- ████ THE STATEMENT ████ -/
theorem proved : Rows.TickUpSumSaid :=
  over
#print axioms proved
end Go.Proofs.Ytbhkghlgchoglaa.tickUpSum
