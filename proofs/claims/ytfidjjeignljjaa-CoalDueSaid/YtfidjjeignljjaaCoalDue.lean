/-
  For every 8-bit number and every slice of bytes CoalDue answers true, and changes nothing: a gatherer is due hold ticks behind the first raise that it has, whatever comes later, and not ahead of that. No condition.
-/
import Derived.Test.YtfidjjeignljjaaRows
import Derived.Test.YtfidjjeignljjaaFr
import Derived.Test.YtfidjjeignljjaaCoalL
import Derived.LoopTactic
namespace Go.Proofs.Ytfidjjeignljjaa.coalDue
open Go.ChangeShapes Go.WideShapes Go.ChangeAt Go.RowKit
set_option linter.unusedVariables false
theorem own : ownKnob Try.prog.godebug = none := by kernel_rfl
theorem laid : laidOutB Try.prog = true := by kernel_rfl
set_option maxRecDepth 100000
theorem walk (b : Int) (A : Option Addr) (n cap : Nat) (f : Nat → Int) (w : World) (bb : 0 ≤ b ∧ b ≤ 255) (hm : n ≤ maxLen) (rd : Rd w A n (fun i => .int .u8 (f i))) (hf : ∀ i, 0 ≤ f i ∧ f i ≤ 255) :
    Calls Try.prog 6 #[.int .u8 b, .slice A n cap] w fun r w' => r = .returned (.bool true) ∧ Below w.heap.size w w' := by
  unfold maxLen at hm
  go_enter Try.func6, Try.ntmps6
  go_wp2_with fail
  refine (awake_any _).mono ?_
  rintro r w1 ⟨rfl, hw⟩
  go_wp2_with fail
  refine (new_ok 1000 (b + 1) _ (by omega)).mono ?_
  rintro r w2 ⟨rfl, hb, hz, hn⟩
  have hB : w.heap.size ≤ w1.heap.size := hw.size
  have hw2 := hw.trans (hn.mono hB)
  by_cases hlen : 20 < n
  · have hl : decide (20 < (n : Int)) = true := decide_eq_true (by omega)
    go_wp2
    go_ret
    exact ⟨rfl, hw2⟩
  · have hl : decide (20 < (n : Int)) = false := decide_eq_false (by omega)
    go_wp2
    go_loopw [7, 8, 9, 10] (fun nw fs hs i wr => ∃ k : Nat, ∃ now N K F F2 : Int, k ≤ n ∧ i = .int .i64 k ∧ nw = .int .u64 now ∧ fs = .int .u64 F ∧ hs = .int .i64 K ∧ 0 ≤ N ∧ N ≤ now ∧ now ≤ 30 * k ∧ 0 ≤ K ∧ K ≤ k ∧ 0 ≤ F ∧ F ≤ now ∧ 0 ≤ F2 ∧ F2 ≤ now ∧ (K = 0 ∨ F2 = F) ∧ Gk wr w1.heap.size 1000 (b + 1) N K F2 ∧ Below w.heap.size w wr) (fun _ _ _ i _ => n - (intOf i).toNat)
    case atStart => exact ⟨0, 0, 0, 0, 0, 0, by omega, rfl, rfl, rfl, rfl, by omega, by omega, by omega, by omega, by omega, by omega, by omega, by omega, by omega, Or.inl rfl, hb, hw2⟩
    case round =>
      obtain ⟨k, now, N, K, F, F2, hk, rfl, rfl, rfl, rfl, n0, n1, n2, k0, k1, f0, f1, f2, f3, hff, hb, hwr⟩ := hrel
      by_cases hlt : k < n
      · obtain ⟨ab, off, rfl, hab, hcell⟩ := rd (by omega)
        have hx : wr.cell? ⟨ab, off + k, none⟩ = some (.int .u8 (f k)) := (hwr.cell (p := ⟨ab, off + k, none⟩) hab).trans (hcell k hlt)
        have fk := hf k
        have g0 : 0 ≤ f k % 30 := Int.emod_nonneg _ (by omega)
        have g1 : f k % 30 < 30 := Int.emod_lt_of_pos _ (by omega)
        clear hcell
        have ho : KOK 1000 (b + 1) N K F2 := ⟨by omega, by omega, by omega, by omega, by omega, by omega, by omega, by omega, by omega⟩
        generalize hv : f k % 30 = v at *
        by_cases hd : 1 ≤ K ∧ F + b + 1 ≤ now + v
        · obtain ⟨hd1, hd2⟩ := hd
          obtain rfl : F2 = F := by omega
          clear hff
          have ER : rR 1000 (b + 1) 0 = 0 := if_neg (by omega)
          have EK : rK 1000 (b + 1) 0 = 1 := if_neg (by omega)
          have ea : now + v + (b + 1) = now + v + b + 1 := by omega
          go_wp2_with fail
          refine (raise_due _ 1000 (b + 1) N K F2 (now + v) _ hb ho (by omega) (by omega) hd1 (by omega)).mono ?_
          rintro r w3 ⟨rfl, hb3, ho3⟩
          rw [EK] at hb3
          rw [ER]
          have hw3 := below_only hwr ho3 hB (Nat.le_refl _)
          clear ER EK
          go_wp2_with fail
          refine (due_some _ 1000 (b + 1) (now + v) 1 (now + v) _ hb3 (by omega) (by omega) (by omega) (by omega) (by omega)).mono ?_
          rintro r w4 ⟨rfl, hb4, ho4⟩
          have hw4 := below_only hw3 ho4 hB (Nat.le_refl _)
          go_wp2_with fail
          refine (has_any _ _ _ _ _ _ _ hb4).mono ?_
          rintro r w' ⟨rfl, rfl⟩
          go_wp2
          go_roundw
          case rel => exact ⟨k + 1, now + v, now + v, 1, (now + v), (now + v), by omega, by go_num, rfl, rfl, rfl, by omega, by omega, by omega, by omega, by omega, by omega, by omega, by omega, by omega, Or.inr rfl, hb4, hw4⟩
          case measure => simp [intOf]; omega
        · by_cases hk0 : K = 0
          · subst hk0
            clear hff hd
            have ER : rR 1000 (b + 1) 0 = 0 := if_neg (by omega)
            have EK : rK 1000 (b + 1) 0 = 1 := if_neg (by omega)
            have ea : now + v + (b + 1) = now + v + b + 1 := by omega
            go_wp2_with fail
            refine (raise_not _ 1000 (b + 1) N 0 F2 (now + v) _ hb ho (by omega) (by omega) (by omega) (Or.inl rfl)).mono ?_
            rintro r w3 ⟨rfl, hb3, ho3⟩
            rw [EK] at hb3
            rw [show rF 0 F2 (now + v) = now + v from if_pos rfl] at hb3
            rw [ER]
            have hw3 := below_only hwr ho3 hB (Nat.le_refl _)
            clear ER EK
            go_wp2_with fail
            refine (due_some _ 1000 (b + 1) (now + v) 1 (now + v) _ hb3 (by omega) (by omega) (by omega) (by omega) (by omega)).mono ?_
            rintro r w4 ⟨rfl, hb4, ho4⟩
            have hw4 := below_only hw3 ho4 hB (Nat.le_refl _)
            go_wp2_with fail
            refine (has_any _ _ _ _ _ _ _ hb4).mono ?_
            rintro r w' ⟨rfl, rfl⟩
            go_wp2
            go_roundw
            case rel => exact ⟨k + 1, now + v, now + v, 1, (now + v), (now + v), by omega, by go_num, rfl, rfl, rfl, by omega, by omega, by omega, by omega, by omega, by omega, by omega, by omega, by omega, Or.inr rfl, hb4, hw4⟩
            case measure => simp [intOf]; omega
          · obtain rfl : F2 = F := by omega
            have hnd : now + v < F2 + b + 1 := by omega
            have hkp : 1 ≤ K := by omega
            have z1 : (K == 0) = false := beq_eq_false_iff_ne.2 (by omega)
            have dn : decide (F2 + b + 1 ≤ now + v) = false := decide_eq_false (by omega)
            clear hff hd hk0
            have ER : rR 1000 (b + 1) K = 0 := if_neg (by omega)
            have EK : rK 1000 (b + 1) K = K + 1 := if_neg (by omega)
            have EF := Lib.hid (show rF K F2 (now + v) = F2 from if_neg (by omega))
            have ea : F2 + (b + 1) = F2 + b + 1 := by omega
            go_wp2_with fail
            refine (raise_not _ 1000 (b + 1) N K F2 (now + v) _ hb ho (by omega) (by omega) (by omega) (Or.inr (by omega))).mono ?_
            rintro r w3 ⟨rfl, hb3, ho3⟩
            rw [EK] at hb3
            rw [EF.out] at hb3
            rw [ER]
            have hw3 := below_only hwr ho3 hB (Nat.le_refl _)
            clear ER EK
            go_wp2_with fail
            refine (due_some _ 1000 (b + 1) (now + v) (K + 1) F2 _ hb3 (by omega) (by omega) (by omega) (by omega) (by omega)).mono ?_
            rintro r w4 ⟨rfl, hb4, ho4⟩
            have hw4 := below_only hw3 ho4 hB (Nat.le_refl _)
            go_wp2_with fail
            refine (has_any _ _ _ _ _ _ _ hb4).mono ?_
            rintro r w' ⟨rfl, rfl⟩
            go_wp2
            go_roundw
            case rel => exact ⟨k + 1, now + v, now + v, (K + 1), F2, F2, by omega, by go_num, rfl, rfl, rfl, by omega, by omega, by omega, by omega, by omega, by omega, by omega, by omega, by omega, Or.inr rfl, hb4, hw4⟩
            case measure => simp [intOf]; omega
      · go_wp2
        go_ret
        exact ⟨rfl, hwr⟩

set_option maxRecDepth 100000 in
theorem lifted (os : Os) (started : os.Started) (H : Type) (enc : TypeId × Value → H) :
    ReturnsInHanded {} Try.checked os 6 .any (Rows.coalDueSpec.pre6 enc Try.prog Try.f6 Rows.coalDueRow.domain false) (Rows.coalDueSpec.post enc Try.prog Try.f6 false true false false) := by
  refine law_lifted (C := Try.checked) (tb := 4) own started (by kernel_rfl) Try.func6
    (ChangeSpec.witness6 (enc := enc) (C := Try.checked) false ⟨#[], #[.int .u8 0, .slice none 0 0], []⟩ 8 (by kernel_rfl) (by kernel_rfl) (by kernel_rfl) (by kernel_rfl)) laid (by kernel_rfl) (by kernel_rfl) Try.underlying4 rfl ?_
  intro W base args ds ps hval0 hA0 hlt
  have hval : ∀ (j : Nat) t v, Try.f6.params[j]? = some t → args[j]? = some v → Value.okWide Try.prog W .any base t v := hval0
  have hA : DataW.TrodAll enc Try.prog W 0 (fun _ => true) true Try.f6.params.toList args.toList ds ps := hA0
  clear hA0 hval0
  rw [Try.params6] at hA hval
  obtain ⟨v0, vs0, d0, ds0, p0, q0, hargs, rfl, rfl, h0, r0⟩ := trodAll_cons hA
  obtain ⟨v1, vs1, d1, ds1, p1, q1, rfl, rfl, rfl, h1, r1⟩ := trodAll_cons r0
  obtain ⟨rfl, rfl, rfl⟩ := trodAll_nil r1
  obtain rfl : args = #[v0, v1] := by cases args; simp_all
  obtain ⟨a0, rfl, rfl, rfl, w0⟩ := open_int Try.underlying5 (hval 0 5 v0 rfl rfl) h0
  obtain ⟨A1, n1, cap1, f1, rfl, le1, mx1, wf1, rd1⟩ := open_slice_ints Try.underlying42 Try.underlying5 (by kernel_rfl) (hval 1 42 v1 rfl rfl) h1
  refine ⟨⟨rfl, rfl, rfl⟩, ?_⟩
  have b0 := bounds_u8 w0
  exact walk a0 A1 n1 cap1 f1 W b0 (by omega) rd1 (fun i => bounds_u8 (wf1 i))

theorem over : Rows.coalDueRow.holds Try.pinned (OpenSpec.ofChange Rows.coalDueSpec) :=
  OpenClaim.holds_of_wide 6 Try.f6 rfl rfl rfl rfl rfl rfl rfl ⟨rfl, rfl, rfl, rfl, rfl⟩ rfl rfl rfl rfl rfl (by kernel_rfl) Try.func6 (by kernel_rfl)
    (of_decide_eq_true (by kernel_rfl)) (by unfold Func.isWrapper; first | (rw [if_pos (by decide +kernel)]; kernel_rfl) | (rw [if_neg (by decide +kernel)]; exact ⟨rfl, rfl⟩))
    (fun os started H enc _ => lifted os started H enc)
theorem proved : Rows.CoalDueSaid := over
#print axioms proved
end Go.Proofs.Ytfidjjeignljjaa.coalDue
