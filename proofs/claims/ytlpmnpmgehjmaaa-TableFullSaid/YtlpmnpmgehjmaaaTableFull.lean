/-
  For every size and number of rounds TableFull answers true, and changes nothing: as many values lie in a table as there are slots, and then none more; all dropped, all slots are free, each a generation on. No condition.
-/
import Derived.Test.YtlpmnpmgehjmaaaRows
import Derived.Test.YtlpmnpmgehjmaaaFr
import Derived.Test.YtlpmnpmgehjmaaaTabO
import Derived.LoopTactic
namespace Go.Proofs.Ytlpmnpmgehjmaaa.tableFull
open Go.ChangeShapes Go.WideShapes Go.ChangeAt Go.RowKit
set_option linter.unusedVariables false
theorem own : ownKnob Try.prog.godebug = none := by kernel_rfl
theorem laid : laidOutB Try.prog = true := by kernel_rfl
set_option maxRecDepth 100000
set_option maxHeartbeats 1000000
/-- The first i slots have been dropped. -/
def dg (r i : Nat) : Nat → Int := fun j => if j < i then (r : Int) + 2 else r + 1
def ds (n i : Nat) : Nat → Option Int := fun j => if i ≤ j ∧ j < n then some (j : Int) else none
theorem dg_succ (r i : Nat) : (fun j => if j = i then dg r i i + 1 else dg r i j) = dg r (i + 1) := by
  funext j
  unfold dg
  by_cases e : j = i
  · subst e; simp; omega
  · rw [if_neg e]; by_cases h : j < i
    · rw [if_pos h, if_pos (by omega)]
    · rw [if_neg h, if_neg (by omega)]
theorem ds_succ (n i : Nat) : (fun j => if j = i then none else ds n i j) = ds n (i + 1) := by
  funext j
  unfold ds
  by_cases e : j = i
  · subst e; rw [if_pos rfl, if_neg (by omega)]
  · rw [if_neg e]; by_cases h : i ≤ j ∧ j < n
    · rw [if_pos h, if_pos (by omega)]
    · rw [if_neg h, if_neg (by omega)]
theorem drop_at (r n i : Nat) (hi : i < n) : DropR n (dg r i) (ds n i) i (r + 1) i 0 (dg r (i + 1)) (ds n (i + 1)) :=
  Or.inl ⟨i, hi, rfl, by unfold dg; rw [if_neg (by omega)], by unfold ds; rw [if_pos ⟨Nat.le_refl _, hi⟩], rfl, (dg_succ r i).symm, (ds_succ n i).symm⟩
theorem dg_ok (r i n : Nat) (hr : r < 4) : ∀ j, j < n → 0 ≤ dg r i j ∧ dg r i j < 18446744073709551615 := fun j _ => by unfold dg; split <;> omega
theorem walk (a b : Int) (w : World) (ba : 0 ≤ a ∧ a ≤ 255) (bb : 0 ≤ b ∧ b ≤ 255) :
    Calls Try.prog 5 #[.int .u8 a, .int .u8 b] w fun r w' => r = .returned (.bool true) ∧ Below w.heap.size w w' := by
  have g0 : 0 ≤ a % 100 := Int.emod_nonneg _ (by omega)
  have g1 : a % 100 < 100 := Int.emod_lt_of_pos _ (by omega)
  have q0 : 0 ≤ b % 4 := Int.emod_nonneg _ (by omega)
  have q1 : b % 4 < 4 := Int.emod_lt_of_pos _ (by omega)
  obtain ⟨n, hn⟩ : ∃ n : Nat, 1 + a % 100 = (n : Int) := ⟨(1 + a % 100).toNat, by omega⟩
  have n1 : 1 ≤ n := by omega
  have n2 : n ≤ 100 := by omega
  have HN := Lib.hid hn
  clear hn
  go_enter Try.func5, Try.ntmps5
  go_wp2_with fail
  refine (awake_o (St.begin w)).mono ?_
  rintro r w1 ⟨rfl, s1⟩
  go_wp2_with fail
  rw [HN.out]
  refine (New_o s1 n1 (by omega)).mono ?_
  rintro r w2 ⟨t, rfl, s2⟩
  go_wp2_with fail
  try rw [HN.out]
  clear HN g0 g1
  go_loopw [8] (fun x wr => ∃ r : Nat, (r : Int) ≤ 1 + b % 4 ∧ x = .int .i64 r ∧ St w None wr [TabR t n (fun _ => (r : Int) + 1) (fun _ => none)]) (fun x _ => 8 - (intOf x).toNat)
  case atStart => exact ⟨0, by omega, rfl, s2⟩
  case round =>
    obtain ⟨r, hr, rfl, sr⟩ := hrel
    by_cases hlt : (r : Int) < 1 + b % 4
    · have SR := sr
      rw [upto_zero] at SR
      obtain ⟨wo, rfl⟩ : ∃ wo : World, wo = wr := ⟨_, rfl⟩
      clear sr
      go_wp2_with fail
      go_loopw [9, 10, 11] (fun x _ _ wr => ∃ i : Nat, i ≤ n ∧ x = .int .i64 i ∧ St w None wr [TabR t n (fun _ => (r : Int) + 1) (upto i)]) (fun x _ _ _ => n - (intOf x).toNat)
      case atStart => exact ⟨0, by omega, rfl, SR⟩
      case round =>
        clear SR s2 s1
        obtain ⟨i, hi, rfl, sr⟩ := hrel
        by_cases hl2 : i < n
        · have hP := Put_o1 (x := i) sr 0 rfl i (by omega) hl2 (fun j hj => ⟨j, by simp [upto, hj]⟩) (by simp [upto])
          rw [upto_succ] at hP
          have HP := Lib.hid hP
          clear hP
          go_wp2_with fail
          refine HP.out.mono ?_
          rintro e w6 ⟨rfl, s6⟩
          have s7 := s6.box 32 #[.int .i64 i, .int .u64 (r + 1)]
          obtain ⟨b0, b1⟩ := (s7.blk 1 rfl).two
          have s8 : St w None _ [_] := s7.drop 1 (by simp)
          go_wp2
          go_roundw
          case rel => exact ⟨i + 1, by omega, by go_num, s8⟩
          case measure => simp [intOf]; omega
        · obtain rfl : i = n := by omega
          have sd : St w None _ [_] := tab_like (gen' := dg r 0) (st' := ds i 0) sr 0 rfl fun j hj => ⟨by simp [dg], by simp [ds, upto]⟩
          have hfull : PutR i (dg r 0) (ds i 0) 5 0 0 4 (ds i 0) := Or.inr ⟨fun j hj => ⟨j, by simp [ds, hj]⟩, rfl, rfl, rfl, rfl⟩
          have hc : cnt (ds i 0) i = i := cnt_all fun j hj => by simp [ds, hj]
          clear hl2 hi sr
          obtain ⟨wo, rfl⟩ : ∃ wo : World, wo = wr := ⟨_, rfl⟩
          go_wp2_with fail
          refine (Put_o sd 0 rfl (by omega) hfull).mono ?_
          rintro e w6 ⟨rfl, s6⟩
          have s7 := s6.alloc (.cells #[.int .i64 0, .int .u64 0] 32)
          go_wp2_with fail
          refine (Count_o s7 0 rfl (by omega) _ hc).mono ?_
          rintro e w8 ⟨rfl, s8⟩
          clear s7 s6 sd hc hfull
          go_wp2_with fail
          go_loopw [14, 15, 16] (fun x _ _ wr => ∃ k : Nat, k ≤ i ∧ x = .int .i64 k ∧ St w None wr [TabR t i (dg r k) (ds i k)]) (fun x _ _ _ => i - (intOf x).toNat)
          case atStart => exact ⟨0, by omega, rfl, s8⟩
          case round =>
            clear s8
            obtain ⟨k, hk, rfl, sr⟩ := hrel
            by_cases hl3 : k < i
            · have HD := Lib.hid (drop_at r i k hl3)
              have HG := Lib.hid (dg_ok r k i (by omega))
              go_wp2_with fail
              refine (Drop_o sr 0 rfl (by omega) HG.out HD.out).mono ?_
              rintro e w6 ⟨rfl, s6⟩
              go_wp2
              go_roundw
              case rel => exact ⟨k + 1, by omega, by go_num, s6⟩
              case measure => simp [intOf]; omega
            · obtain rfl : k = i := by omega
              have sd : St w None _ [_] := tab_like (gen' := fun _ => ((r + 1 : Nat) : Int) + 1) (st' := fun _ => none) sr 0 rfl fun j hj => ⟨by simp [dg, hj]; omega, by unfold ds; rw [if_neg (by omega)]⟩
              clear sr
              go_wp2
              go_roundw
              case rel => exact ⟨r + 1, by omega, by go_num, sd⟩
              case measure => simp [intOf]; omega
    · have hc : cnt (fun _ => none) n = 0 := cnt_none fun j hj => rfl
      go_wp2_with fail
      refine (Count_o sr 0 rfl (by omega) _ hc).mono ?_
      rintro e w8 ⟨rfl, s8⟩
      go_wp2_with fail
      refine (All_o s8 0 rfl (by omega) _ hc).mono ?_
      rintro e w9 ⟨A, cap, rfl, s9⟩
      go_wp2
      go_ret
      exact ⟨rfl, s9.below⟩

set_option maxRecDepth 100000 in
theorem lifted (os : Os) (started : os.Started) (H : Type) (enc : TypeId × Value → H) :
    ReturnsInHanded {} Try.checked os 5 .any (Rows.tableFullSpec.pre6 enc Try.prog Try.f5 Rows.tableFullRow.domain false) (Rows.tableFullSpec.post enc Try.prog Try.f5 false true false false) := by
  refine law_lifted (C := Try.checked) (tb := 4) own started (by kernel_rfl) Try.func5
    (ChangeSpec.witness6 (enc := enc) (C := Try.checked) false ⟨#[], #[.int .u8 0, .int .u8 0], []⟩ 8 (by kernel_rfl) (by kernel_rfl) (by kernel_rfl) (by kernel_rfl)) laid (by kernel_rfl) (by kernel_rfl) Try.underlying4 rfl ?_
  intro W base args ds ps hval0 hA0 hlt
  have hval : ∀ (j : Nat) t v, Try.f5.params[j]? = some t → args[j]? = some v → Value.okWide Try.prog W .any base t v := hval0
  have hA : DataW.TrodAll enc Try.prog W 0 (fun _ => true) true Try.f5.params.toList args.toList ds ps := hA0
  clear hA0 hval0
  rw [Try.params5] at hA hval
  obtain ⟨v0, vs0, d0, ds0, p0, q0, hargs, rfl, rfl, h0, r0⟩ := trodAll_cons hA
  obtain ⟨v1, vs1, d1, ds1, p1, q1, rfl, rfl, rfl, h1, r1⟩ := trodAll_cons r0
  obtain ⟨rfl, rfl, rfl⟩ := trodAll_nil r1
  obtain rfl : args = #[v0, v1] := by cases args; simp_all
  obtain ⟨a0, rfl, rfl, rfl, w0⟩ := open_int Try.underlying5 (hval 0 5 v0 rfl rfl) h0
  obtain ⟨a1, rfl, rfl, rfl, w1⟩ := open_int Try.underlying5 (hval 1 5 v1 rfl rfl) h1
  refine ⟨⟨rfl, rfl, rfl⟩, ?_⟩
  exact walk a0 a1 W (bounds_u8 w0) (bounds_u8 w1)

theorem over : Rows.tableFullRow.holds Try.pinned (OpenSpec.ofChange Rows.tableFullSpec) :=
  OpenClaim.holds_of_wide 5 Try.f5 rfl rfl rfl rfl rfl rfl rfl ⟨rfl, rfl, rfl, rfl, rfl⟩ rfl rfl rfl rfl rfl (by kernel_rfl) Try.func5 (by kernel_rfl)
    (of_decide_eq_true (by kernel_rfl)) (by unfold Func.isWrapper; first | (rw [if_pos (by decide +kernel)]; kernel_rfl) | (rw [if_neg (by decide +kernel)]; exact ⟨rfl, rfl⟩))
    (fun os started H enc _ => lifted os started H enc)
theorem proved : Rows.TableFullSaid := over
#print axioms proved
end Go.Proofs.Ytlpmnpmgehjmaaa.tableFull
