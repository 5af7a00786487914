/-
  For every three unsigned 64-bit numbers TickWalks answers true, and changes nothing: from a time on, window by window, each begins a period behind the one ahead, up to the horizon. No condition.
-/
import Derived.Test.YtbhkghlgchoglaaRows
import Derived.WalkKit
import Derived.ProofKit
import Derived.OpenShut
import Derived.Test.YtbhkghlgchoglaaTickAw
import Derived.Test.YtbhkghlgchoglaaTickV
import Derived.LoopTactic
namespace Go.Proofs.Ytbhkghlgchoglaa.tickWalks
open Go.ChangeShapes Go.WideShapes Go.ChangeAt Go.RowKit
set_option linter.unusedVariables false      -- a walk need not use every 'w<i>' (that an integer argument fits its kind)

theorem own : ownKnob Try.prog.godebug = none := by kernel_rfl

def Good (t p d n : Int) : Prop := (1 ≤ d ∧ d ≤ 4611686018427387904) ∧ p < 4611686018427387904 ∧ ∃ m : Int, 0 ≤ m ∧ n = p + m * d ∧ n < 4611686018427387904 ∧ t < n
def Stand (t p d n e : Int) : Prop := (e = 0 ∧ Good t p d n) ∨ (e = 2 ∧ n = 0) ∨ (e = 1 ∧ n = 0)
theorem start_ok (t p d : Int) (h0 : 0 ≤ p) : Stand t p d (nxtV t p d) (nxtE t p d) := by
  unfold nxtV nxtE
  by_cases h : hok p t
  · by_cases k : pok d
    · by_cases l : t < p
      · simp only [if_pos h, if_pos k, if_pos l]; exact Or.inl ⟨rfl, k, h.2, 0, by omega, by omega, h.2, l⟩
      · obtain ⟨m0, m1, m2, m3, m4⟩ := win_le (show p ≤ t by omega) k.1
        by_cases m : p + (t - p) / d * d + d < 4611686018427387904
        · simp only [if_pos h, if_pos k, if_neg l, if_pos m]; exact Or.inl ⟨rfl, k, h.2, (t - p) / d + 1, by omega, by rw [Int.add_mul]; omega, m, by omega⟩
        · simp only [if_pos h, if_pos k, if_neg l, if_neg m]; exact Or.inr (Or.inl ⟨by simp, by simp⟩)
    · simp only [if_pos h, if_neg k]; exact Or.inr (Or.inr ⟨by simp, by simp⟩)
  · simp only [if_neg h]; exact Or.inr (Or.inl ⟨by simp, by simp⟩)
theorem window_at (n k p d : Int) (w : World) (hn : n = p + k * d) (h0 : 0 ≤ p) (hk : 0 ≤ k) (hd : 1 ≤ d ∧ d ≤ 4611686018427387904) (hl : n < 4611686018427387904) : Calls Try.prog 20 #[.int .u64 n, .int .u64 p, .int .u64 d] w fun e w' => e = .returned (.tuple #[.int .u64 k, .int .u64 n, .int .i64 0]) ∧ w = w' := by
  have e : (n - p) / d = k := by rw [hn, show p + k * d - p = k * d by omega, Int.mul_ediv_cancel _ (by omega)]
  have e2 : p + k * d = n := hn.symm
  have hm := Int.mul_nonneg hk (show 0 ≤ d by omega)
  have := window_ok n p d w h0 (by omega) hl hd
  rw [e, e2] at this
  exact this
theorem next_at (n k p d : Int) (w : World) (hn : n = p + k * d) (h0 : 0 ≤ p) (hk : 0 ≤ k) (hd : 1 ≤ d ∧ d ≤ 4611686018427387904) (hl : n + d < 4611686018427387904) : Calls Try.prog 22 #[.int .u64 n, .int .u64 p, .int .u64 d] w fun e w' => e = .returned (.tuple #[.int .u64 (n + d), .int .i64 0]) ∧ w = w' := by
  have e : (n - p) / d = k := by rw [hn, show p + k * d - p = k * d by omega, Int.mul_ediv_cancel _ (by omega)]
  have hm := Int.mul_nonneg hk (show 0 ≤ d by omega)
  have := next_ok n p d w h0 (by omega) (by omega) hd (by rw [e]; omega)
  rw [e, ← hn] at this
  exact this
theorem next_out (n k p d : Int) (w : World) (hn : n = p + k * d) (h0 : 0 ≤ p) (hk : 0 ≤ k) (hd : 1 ≤ d ∧ d ≤ 4611686018427387904) (hl0 : n < 4611686018427387904) (hl : ¬ n + d < 4611686018427387904) : Calls Try.prog 22 #[.int .u64 n, .int .u64 p, .int .u64 d] w fun e w' => e = .returned (.tuple #[.int .u64 0, .int .i64 2]) ∧ w = w' := by
  have e : (n - p) / d = k := by rw [hn, show p + k * d - p = k * d by omega, Int.mul_ediv_cancel _ (by omega)]
  have hm := Int.mul_nonneg hk (show 0 ≤ d by omega)
  exact next_end n p d w h0 (by omega) (by omega) hd (by rw [e]; omega)
theorem good_next {t p d n m : Int} (hd : 1 ≤ d ∧ d ≤ 4611686018427387904) (hp : p < 4611686018427387904) (hm : 0 ≤ m) (hn : n = p + m * d) (ht : t < n) (hl : n + d < 4611686018427387904) : Good t p d (n + d) :=
  ⟨hd, hp, m + 1, by omega, by rw [Int.add_mul]; omega, hl, by omega⟩
set_option maxRecDepth 100000
/-! ### STEP 1: THE WALK: the Go text returns true. 'Grown w w'': the world has at most new blocks (Derived/RowKit3.lean). Part the cases AHEAD of 'go_enter' where a test parts the walk; take each callee by a contract of your own. -/
theorem walk (a0 : Int) (a1 : Int) (a2 : Int) (w0 : (Lit.int .u64 a0).wf = true) (w1 : (Lit.int .u64 a1).wf = true) (w2 : (Lit.int .u64 a2).wf = true) (w : World) :
    Calls Try.prog 7 #[.int .u64 a0, .int .u64 a1, .int .u64 a2] w fun e w' => e = .returned (.bool true) ∧ Grown w w' := by
  have b0 := bounds_u64 w0
  have b1 := bounds_u64 w1
  have b2 := bounds_u64 w2
  have st := Lib.hid (start_ok a0 a1 a2 b1.1)
  go_enter Try.func7, Try.ntmps7
  go_wp2_with (first | (go_at_call 11; refine (awake_any _).mono ?_; rintro e w' ⟨rfl, rfl⟩) | (go_at_call 22; refine (next_v _ _ _ _ b1.1).mono ?_; rintro e w' ⟨rfl, rfl⟩))
  go_loop [7, 8, 9] (fun n e i => ∃ k : Nat, ∃ nn ee : Int, k ≤ 60 ∧ i = .int .i64 k ∧ n = .int .u64 nn ∧ e = .int .i64 ee ∧ Stand a0 a1 a2 nn ee) (fun _ _ i => 60 - (intOf i).toNat)
  case atStart => exact ⟨0, _, _, by omega, rfl, rfl, rfl, st.out⟩
  case round =>
    obtain ⟨k, n, e, hk, rfl, rfl, rfl, hst⟩ := hrel
    rcases hst with ⟨rfl, hd, hp, m, hm, hn, hl, ht⟩ | ⟨rfl, rfl⟩ | ⟨rfl, rfl⟩
    · by_cases hlt : k < 60
      · have Y := Lib.hid fun w => window_at n m a1 a2 w hn b1.1 hm hd hl
        have e1 : (n - a1) / a2 = m := by rw [hn, show a1 + m * a2 - a1 = m * a2 by omega, Int.mul_ediv_cancel _ (by omega)]
        have e2 : (n - a1) % a2 = 0 := by rw [hn, show a1 + m * a2 - a1 = m * a2 by omega, Int.mul_emod_left]
        have hm2 := Int.mul_nonneg hm (show 0 ≤ a2 by omega)
        have d1 : decide (n ≤ a0) = false := decide_eq_false (by omega)
        by_cases hnx : n + a2 < 4611686018427387904
        · have X := Lib.hid fun w => next_at n m a1 a2 w hn b1.1 hm hd hnx
          have G := Lib.hid (good_next hd hp hm hn ht hnx)
          have hn2 : a1 ≤ n := by omega
          clear hn
          obtain ⟨hd1, hd2⟩ := hd
          go_wp2_with (first | (go_at_call 20; refine (Y.out _).mono ?_; rintro e w' ⟨rfl, rfl⟩) | (go_at_call 22; refine (X.out _).mono ?_; rintro e w' ⟨rfl, rfl⟩))
          go_round
          case rel => exact ⟨k + 1, _, _, by omega, by go_num, rfl, rfl, Or.inl ⟨rfl, G.out⟩⟩
          case measure => simp [intOf]; omega
        · have X := Lib.hid fun w => next_out n m a1 a2 w hn b1.1 hm hd hl hnx
          have hn2 : a1 ≤ n := by omega
          have d5 : decide (n + a2 < 4611686018427387904) = false := decide_eq_false hnx
          clear hn hnx
          obtain ⟨hd1, hd2⟩ := hd
          go_wp2_with (first | (go_at_call 20; refine (Y.out _).mono ?_; rintro e w' ⟨rfl, rfl⟩) | (go_at_call 22; refine (X.out _).mono ?_; rintro e w' ⟨rfl, rfl⟩))
          go_round
          case rel => exact ⟨k + 1, _, _, by omega, by go_num, rfl, rfl, Or.inr (Or.inl ⟨rfl, rfl⟩)⟩
          case measure => simp [intOf]; omega
      · clear hn
        go_wp2
        go_ret
        exact ⟨rfl, Grown.refl _⟩
    · go_wp2
      all_goals go_ret
      all_goals exact ⟨rfl, Grown.refl _⟩
    · go_wp2
      all_goals go_ret
      all_goals exact ⟨rfl, Grown.refl _⟩

/-! ### THE ROW's STEP: WRITTEN OUT: LEAVE IT -/
set_option maxRecDepth 100000 in
theorem lifted (os : Os) (started : os.Started) (H : Type) (enc : TypeId × Value → H) :
    ReturnsInHanded {} Try.checked os 7 .any (Rows.tickWalksSpec.pre6 enc Try.prog Try.f7 Rows.tickWalksRow.domain false) (Rows.tickWalksSpec.post enc Try.prog Try.f7 false true false false) := by
  refine returnsInHanded_of_change (C := Try.checked) own started (by kernel_rfl) Try.func7
    (ChangeSpec.witness6 (enc := enc) (C := Try.checked) false ⟨#[], #[.int .u64 0, .int .u64 0, .int .u64 0], []⟩ 8 (by kernel_rfl) (by kernel_rfl) (by kernel_rfl) (by kernel_rfl)) ?_
  intro W base args ds gs before hval0 hW hcnd _
  have hval : ∀ (j : Nat) t v, Try.f7.params[j]? = some t → args[j]? = some v → Value.okWide Try.prog W .any base t v := hval0
  have hW' := hW
  obtain ⟨p, q, hA0, hV, rfl, hfz, hnd⟩ := hW
  have hA : DataW.TrodAll enc Try.prog W 0 (fun _ => true) true Try.f7.params.toList args.toList ds p := hA0
  rw [Try.params7] at hA hval
  obtain ⟨v0, vs0, d0, ds0, p0, q0, hargs, rfl, rfl, h0, r0⟩ := trodAll_cons hA
  obtain ⟨v1, vs1, d1, ds1, p1, q1, rfl, rfl, rfl, h1, r1⟩ := trodAll_cons r0
  obtain ⟨v2, vs2, d2, ds2, p2, q2, rfl, rfl, rfl, h2, r2⟩ := trodAll_cons r1
  obtain ⟨rfl, rfl, rfl⟩ := trodAll_nil r2
  obtain rfl : args = #[v0, v1, v2] := by cases args; simp_all
  obtain ⟨rfl, rfl⟩ := trodVars_none hV
  obtain ⟨a0, rfl, rfl, rfl, w0⟩ := open_int Try.underlying22 (hval 0 22 v0 rfl rfl) h0
  obtain ⟨a1, rfl, rfl, rfl, w1⟩ := open_int Try.underlying22 (hval 1 22 v1 rfl rfl) h1
  obtain ⟨a2, rfl, rfl, rfl, w2⟩ := open_int Try.underlying22 (hval 2 22 v2 rfl rfl) h2
  clear hA0 hval0
  simp only [List.append_nil] at hW'
  refine (walk a0 a1 a2 w0 w1 w2 W).mono fun e W' ⟨he, hg⟩ => ?_
  subst he
  exact ⟨_, rfl, post_of_same (pa := []) (pv := []) hW' (fun _ _ _ => (trodAll_cons_mk (shut_bool Try.underlying4 _) trodAll_mk0)) (fun sp _ => (trodAll_cons_mk (shut_int Try.underlying22 w0) (trodAll_cons_mk (shut_int Try.underlying22 w1) (trodAll_cons_mk (shut_int Try.underlying22 w2) trodAll_mk0)))) (fun _ _ => rfl) rfl
    (hg.frame _) hg.2.1 (ok_one (by kernel_rfl) rfl (okWide_bool_mk Try.underlying4 _))⟩

theorem over : Rows.tickWalksRow.holds Try.pinned (OpenSpec.ofChange Rows.tickWalksSpec) :=
  OpenClaim.holds_of_wide 7 Try.f7 rfl rfl rfl rfl rfl rfl rfl ⟨rfl, rfl, rfl, rfl, rfl⟩ rfl rfl rfl rfl rfl (by kernel_rfl) Try.func7 (by kernel_rfl)
    (of_decide_eq_true (by kernel_rfl)) (by unfold Func.isWrapper; first | (rw [if_pos (by decide +kernel)]; kernel_rfl) | (rw [if_neg (by decide +kernel)]; exact ⟨rfl, rfl⟩))
    (fun os started H enc _ => lifted os started H enc)

/-- ████ THE STATEMENT ████ -/
theorem proved : Rows.TickWalksSaid :=
  over
#print axioms proved
end Go.Proofs.Ytbhkghlgchoglaa.tickWalks
