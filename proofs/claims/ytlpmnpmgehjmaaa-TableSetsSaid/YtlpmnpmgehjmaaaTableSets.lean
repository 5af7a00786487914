/-
  For every size and every slice of pairs TableSets answers true, and changes nothing: what is set is got, by the one handle alone. No condition.
-/
import Derived.Test.YtlpmnpmgehjmaaaRows
import Derived.Test.YtlpmnpmgehjmaaaFr
import Derived.Test.YtlpmnpmgehjmaaaTabO
import Derived.Test.YtlpmnpmgehjmaaaRd
import Derived.Test.YtlpmnpmgehjmaaaOpen
import Derived.LoopTactic
namespace Go.Proofs.Ytlpmnpmgehjmaaa.tableSets
open Go.ChangeShapes Go.WideShapes Go.ChangeAt Go.RowKit
set_option linter.unusedVariables false
theorem own : ownKnob Try.prog.godebug = none := by kernel_rfl
theorem laid : laidOutB Try.prog = true := by kernel_rfl
set_option maxRecDepth 100000
set_option maxHeartbeats 1000000
def sev (i : Nat) : Nat → Option Int := fun j => if j < i then some (7 * (j : Int)) else none
def sevV (i : Nat) : Nat → Value := fun j => .int .i64 (if j < i then 7 * (j : Int) else 0)
theorem sev_zero : (fun _ => none) = sev 0 := by funext j; simp [sev]
theorem sevV_zero : (fun _ => Value.int .i64 0) = sevV 0 := by funext j; simp [sevV]
theorem sev_succ (i : Nat) : (fun j => if j = i then some (7 * (i : Int)) else sev i j) = sev (i + 1) := by
  funext j
  unfold sev
  by_cases e : j = i
  · subst e; simp
  · rw [if_neg e]; by_cases h : j < i
    · rw [if_pos h, if_pos (by omega)]
    · rw [if_neg h, if_neg (by omega)]
theorem sevV_succ (i : Nat) : (fun j => if j = i then Value.int .i64 (7 * (i : Int)) else sevV i j) = sevV (i + 1) := by
  funext j
  unfold sevV
  by_cases e : j = i
  · subst e; simp
  · rw [if_neg e]; by_cases h : j < i
    · rw [if_pos h, if_pos (by omega)]
    · rw [if_neg h, if_neg (by omega)]
def upd (V : Nat → Int) (k : Nat) (x : Int) : Nat → Int := fun j => if j = k then x else V j
theorem upd_st (V : Nat → Int) (k : Nat) (x : Int) : (fun j => if j = k then some x else some (V j)) = fun j => some (upd V k x j) := by funext j; unfold upd; split <;> rfl
theorem upd_v (V : Nat → Int) (k : Nat) (x : Int) : (fun j => if j = k then Value.int .i64 x else Value.int .i64 (V j)) = fun j => Value.int .i64 (upd V k x j) := by funext j; unfold upd; split <;> rfl
theorem Ytlpmnpmgehjmaaai : (Try.prog.info? 3).map (fun i => (i.zero, i.size, i.bytes)) = some (some (.int .i64 0), 1, 8) := by kernel_rfl
theorem walk (a : Int) (A : Option Addr) (q cap : Nat) (V : Nat → Nat → Value) (w : World) (ba : 0 ≤ a ∧ a ≤ 255) (hm : q ≤ maxLen) (rd : RdM w A q 2 V) (f0 : ∀ j, j < q → ∃ z, V j 0 = .int .i64 z ∧ (Lit.int .i64 z).wf = true) (f1 : ∀ j, j < q → ∃ z, V j 1 = .int .i64 z) :
    Calls Try.prog 6 #[.int .u8 a, .slice A q cap] w fun r w' => r = .returned (.bool true) ∧ Below w.heap.size w w' := by
  unfold maxLen at hm
  have g0 : 0 ≤ a % 50 := Int.emod_nonneg _ (by omega)
  have g1 : a % 50 < 50 := Int.emod_lt_of_pos _ (by omega)
  obtain ⟨n, hn⟩ : ∃ n : Nat, 1 + a % 50 = (n : Int) := ⟨(1 + a % 50).toNat, by omega⟩
  have n1 : 1 ≤ n := by omega
  have n2 : n ≤ 50 := by omega
  have hn2 : n ≤ 1000 := by omega
  have HN := Lib.hid hn
  clear hn
  by_cases hq : 60 < q
  · go_enter Try.func6, Try.ntmps6
    go_wp2_with fail
    refine (awake_o (St.begin w)).mono ?_
    rintro r w1 ⟨rfl, s1⟩
    go_wp2_with fail
    rw [HN.out]
    refine (New_o s1 n1 hn2).mono ?_
    rintro r w2 ⟨t, rfl, s2⟩
    go_wp2
    go_ret
    exact ⟨rfl, s2.below⟩
  · have dq : decide (60 < (q : Int)) = false := decide_eq_false (by omega)
    obtain ⟨i0, hi, hz0, hz1, hz2⟩ := info_parts Ytlpmnpmgehjmaaai
    go_enter Try.func6, Try.ntmps6
    go_wp2_with fail
    refine (awake_o (St.begin w)).mono ?_
    rintro r w1 ⟨rfl, s1⟩
    go_wp2_with fail
    rw [HN.out]
    refine (New_o s1 n1 hn2).mono ?_
    rintro r w2 ⟨t, rfl, s2⟩
    clear HN g0 g1
    go_wp2_with (refine wpList_make_full _ rfl _ _ 49 rfl w2.heap.size 3 i0 (.int .i64 0) 1 Try.underlying49 hi hz0 hz1 .i64 .i64 n n n rfl rfl rfl rfl (by rw [hz2]; omega) (by unfold maxLen; omega) (Nat.le_refl _) ?_; intro w3 hown hgrow)
    have s3 : St w None w3 [_, _] := s2.make rfl hown hgrow
    generalize w2.heap.size = vb at *
    rw [sev_zero, sevV_zero] at s3
    clear s1 s2 hown hgrow hi hz0 hz1 hz2
    go_loopw [9] (fun x wr => ∃ i : Nat, i ≤ n ∧ x = .int .i64 i ∧ St w None wr [TabR t n (fun _ => 1) (sev i), ArrR vb 3 n (sevV i)]) (fun x _ => n - (intOf x).toNat)
    case atStart => exact ⟨0, by omega, rfl, s3⟩
    case round =>
      clear s3
      obtain ⟨i, hi, rfl, sr⟩ := hrel
      by_cases hlt : i < n
      · have fr := sr.arr_frozen 1 rfl i
        have cm := sr.arr_cell 1 rfl hlt
        have s5' := sr.arr_set 1 rfl hlt (.int .i64 (7 * i))
        rw [sevV_succ] at s5'
        have s5 : St w None _ [_, _] := s5'
        have hP := fun wz (h : St w None wz [TabR t n (fun _ => 1) (sev i), ArrR vb 3 n (sevV (i + 1))]) => Put_o1 (x := 7 * i) h 0 rfl i hn2 hlt (fun j hj => ⟨7 * j, by simp [sev, hj]⟩) (by simp [sev])
        rw [sev_succ] at hP
        have HP := Lib.hid hP
        have S5 := Lib.hid s5
        clear hP s5 s5' sr
        generalize sevV i i = vv at *
        go_wp2_with fail
        refine (HP.out _ S5.out).mono ?_
        rintro e w6 ⟨rfl, s6⟩
        go_wp2
        go_roundw
        case rel => exact ⟨i + 1, by omega, by go_num, s6⟩
        case measure => simp [intOf]; omega
      · obtain rfl : i = n := by omega
        have sd0 := tab_like (gen' := fun _ => 1) (st' := fun j => some (7 * (j : Int))) sr 0 rfl fun j hj => ⟨rfl, by simp [sev, hj]⟩
        have sd : St w None _ [_, _] := sd0.arr_like (V' := fun j => .int .i64 (7 * (j : Int))) 1 rfl fun j hj => by simp [sevV, hj]
        clear sd0 sr
        go_wp2_with fail
        go_loopw [10] (fun x wr => ∃ (k : Nat) (W : Nat → Int), k ≤ q ∧ x = .int .i64 k ∧ St w None wr [TabR t i (fun _ => 1) (fun j => some (W j)), ArrR vb 3 i (fun j => .int .i64 (W j))]) (fun x _ => q - (intOf x).toNat)
        case atStart => exact ⟨0, _, by omega, rfl, sd⟩
        case round =>
          clear sd
          obtain ⟨n, rfl⟩ : ∃ n, n = i := ⟨_, rfl⟩
          obtain ⟨k, W, hk, rfl, sr⟩ := hrel
          by_cases hlt2 : k < q
          · obtain ⟨z, hz, wz⟩ := f0 k hlt2
            obtain ⟨x, hx⟩ := f1 k hlt2
            have bz := bounds_i64 wz
            obtain ⟨ib, off, rfl, hib, hc⟩ := rd (by omega)
            have e0o := hc k hlt2 0 (by omega)
            have e1o := hc k hlt2 1 (by omega)
            rw [hz, ← Nat.add_assoc, Nat.add_zero] at e0o
            rw [hx, ← Nat.add_assoc] at e1o
            have e0 : wr.cell? ⟨ib, off + k * 2, none⟩ = some (.int .i64 z) := (sr.cell (p := ⟨ib, off + k * 2, none⟩) hib id).trans e0o
            have e1 : wr.cell? ⟨ib, off + k * 2 + 1, none⟩ = some (.int .i64 x) := (sr.cell (p := ⟨ib, off + k * 2 + 1, none⟩) hib id).trans e1o
            have t1 : (z.tmod n).natAbs < n := by rw [Int.natAbs_tmod]; simpa using Nat.mod_lt _ (by omega)
            clear hc hz hx e0o wz
            by_cases hneg : z.tmod n < 0
            · obtain ⟨m, hmm⟩ : ∃ m : Nat, z.tmod n = -(m : Int) := ⟨(z.tmod n).natAbs, by omega⟩
              have hm : m < n := by omega
              have hm0 : 0 < m := by omega
              have dneg : decide (-(m : Int) < 0) = true := decide_eq_true (by omega)
              clear t1 hneg
              have s1' : SetR n (fun _ => 1) (fun j => some (W j)) m 1 x 0 (fun j => if j = m then some x else some (W j)) := Or.inl ⟨m, W m, hm, rfl, rfl, rfl, rfl, rfl⟩
              rw [upd_st] at s1'
              have S1 := Lib.hid s1'
              clear s1'
              have S2 := Lib.hid (show SetR n (fun _ => 1) (fun j => some (upd W m x j)) m 2 5 3 (fun j => some (upd W m x j)) from Or.inr ⟨Or.inr (Or.inr (Or.inr (by simp))), rfl, rfl⟩)
              go_wp2_with fail
              refine (Set_o sr 0 rfl hn2 S1.out).mono ?_
              rintro e w6 ⟨rfl, s6⟩
              have e1' : w6.cell? ⟨ib, off + k * 2 + 1, none⟩ = some (.int .i64 x) := (s6.cell (p := ⟨ib, off + k * 2 + 1, none⟩) hib id).trans e1o
              clear e1
              go_wp2_with fail
              refine (Set_o s6 0 rfl hn2 S2.out).mono ?_
              rintro e w7 ⟨rfl, s7⟩
              have e1'' : w7.cell? ⟨ib, off + k * 2 + 1, none⟩ = some (.int .i64 x) := (s7.cell (p := ⟨ib, off + k * 2 + 1, none⟩) hib id).trans e1o
              have fr := s7.arr_frozen 1 rfl m
              have cm := s7.arr_cell 1 rfl hm
              have s8' := s7.arr_set 1 rfl hm (.int .i64 x)
              rw [upd_v] at s8'
              have s8 : St w None _ [_, _] := s8'
              have S8 := Lib.hid s8
              clear s8 s8' s7 s6 sr
              generalize upd W m x = W' at *
              go_wp2_with fail
              have s8 := S8.out
              clear S8 cm fr e1' e1'' S1 S2 e0 e1o
              go_loopw [12] (fun y wr => ∃ j : Nat, j ≤ n ∧ y = .int .i64 j ∧ St w None wr [TabR t n (fun _ => 1) (fun j => some (W' j)), ArrR vb 3 n (fun j => .int .i64 (W' j))]) (fun y _ => n - (intOf y).toNat)
              case atStart => exact ⟨0, by omega, rfl, s8⟩
              case round =>
                clear s8
                obtain ⟨j, hj, rfl, sr⟩ := hrel
                by_cases hl3 : j < n
                · have hG : GetR n (fun _ => 1) (fun j => some (W' j)) j 1 (W' j) 0 := Or.inl ⟨j, hl3, rfl, rfl, rfl, rfl⟩
                  obtain ⟨y, hy⟩ : ∃ y, W' j = y := ⟨_, rfl⟩
                  rw [hy] at hG
                  have HG := Lib.hid hG
                  have HY := Lib.hid hy
                  clear hG hy
                  go_wp2_with fail
                  refine (Get_o sr 0 rfl hn2 HG.out).mono ?_
                  rintro e w9 ⟨rfl, s9⟩
                  have c9 := s9.arr_cell 1 rfl hl3
                  rw [HY.out] at c9
                  go_wp2
                  go_roundw
                  case rel => exact ⟨j + 1, by omega, by go_num, s9⟩
                  case measure => simp [intOf]; omega
                · go_wp2
                  go_roundw
                  case rel => exact ⟨k + 1, W', by omega, by go_num, sr⟩
                  case measure => simp [intOf]; omega
            · obtain ⟨m, hmm⟩ : ∃ m : Nat, z.tmod n = (m : Int) := ⟨(z.tmod n).natAbs, by omega⟩
              have hm : m < n := by omega
              have dneg : decide ((m : Int) < 0) = false := decide_eq_false (by omega)
              clear t1 hneg
              have s1' : SetR n (fun _ => 1) (fun j => some (W j)) m 1 x 0 (fun j => if j = m then some x else some (W j)) := Or.inl ⟨m, W m, hm, rfl, rfl, rfl, rfl, rfl⟩
              rw [upd_st] at s1'
              have S1 := Lib.hid s1'
              clear s1'
              have S2 := Lib.hid (show SetR n (fun _ => 1) (fun j => some (upd W m x j)) m 2 5 3 (fun j => some (upd W m x j)) from Or.inr ⟨Or.inr (Or.inr (Or.inr (by simp))), rfl, rfl⟩)
              go_wp2_with fail
              refine (Set_o sr 0 rfl hn2 S1.out).mono ?_
              rintro e w6 ⟨rfl, s6⟩
              have e1' : w6.cell? ⟨ib, off + k * 2 + 1, none⟩ = some (.int .i64 x) := (s6.cell (p := ⟨ib, off + k * 2 + 1, none⟩) hib id).trans e1o
              clear e1
              go_wp2_with fail
              refine (Set_o s6 0 rfl hn2 S2.out).mono ?_
              rintro e w7 ⟨rfl, s7⟩
              have e1'' : w7.cell? ⟨ib, off + k * 2 + 1, none⟩ = some (.int .i64 x) := (s7.cell (p := ⟨ib, off + k * 2 + 1, none⟩) hib id).trans e1o
              have fr := s7.arr_frozen 1 rfl m
              have cm := s7.arr_cell 1 rfl hm
              have s8' := s7.arr_set 1 rfl hm (.int .i64 x)
              rw [upd_v] at s8'
              have s8 : St w None _ [_, _] := s8'
              have S8 := Lib.hid s8
              clear s8 s8' s7 s6 sr
              generalize upd W m x = W' at *
              go_wp2_with fail
              have s8 := S8.out
              clear S8 cm fr e1' e1'' S1 S2 e0 e1o
              go_loopw [12] (fun y wr => ∃ j : Nat, j ≤ n ∧ y = .int .i64 j ∧ St w None wr [TabR t n (fun _ => 1) (fun j => some (W' j)), ArrR vb 3 n (fun j => .int .i64 (W' j))]) (fun y _ => n - (intOf y).toNat)
              case atStart => exact ⟨0, by omega, rfl, s8⟩
              case round =>
                clear s8
                obtain ⟨j, hj, rfl, sr⟩ := hrel
                by_cases hl3 : j < n
                · have hG : GetR n (fun _ => 1) (fun j => some (W' j)) j 1 (W' j) 0 := Or.inl ⟨j, hl3, rfl, rfl, rfl, rfl⟩
                  obtain ⟨y, hy⟩ : ∃ y, W' j = y := ⟨_, rfl⟩
                  rw [hy] at hG
                  have HG := Lib.hid hG
                  have HY := Lib.hid hy
                  clear hG hy
                  go_wp2_with fail
                  refine (Get_o sr 0 rfl hn2 HG.out).mono ?_
                  rintro e w9 ⟨rfl, s9⟩
                  have c9 := s9.arr_cell 1 rfl hl3
                  rw [HY.out] at c9
                  go_wp2
                  go_roundw
                  case rel => exact ⟨j + 1, by omega, by go_num, s9⟩
                  case measure => simp [intOf]; omega
                · go_wp2
                  go_roundw
                  case rel => exact ⟨k + 1, W', by omega, by go_num, sr⟩
                  case measure => simp [intOf]; omega
          · have hc : cnt (fun j => some (W j)) n = n := cnt_all fun j hj => rfl
            go_wp2_with fail
            refine (Count_o sr 0 rfl (by omega) _ hc).mono ?_
            rintro e w8 ⟨rfl, s8⟩
            go_wp2
            go_ret
            exact ⟨rfl, s8.below⟩

set_option maxRecDepth 100000 in
theorem lifted (os : Os) (started : os.Started) (H : Type) (enc : TypeId × Value → H) :
    ReturnsInHanded {} Try.checked os 6 .any (Rows.tableSetsSpec.pre6 enc Try.prog Try.f6 Rows.tableSetsRow.domain false) (Rows.tableSetsSpec.post enc Try.prog Try.f6 false true false false) := by
  refine law_lifted (C := Try.checked) (tb := 4) own started (by kernel_rfl) Try.func6
    (ChangeSpec.witness6 (enc := enc) (C := Try.checked) false ⟨#[], #[.int .u8 0, .slice none 0 0], []⟩ 8 (by kernel_rfl) (by kernel_rfl) (by kernel_rfl) (by kernel_rfl)) laid (by kernel_rfl) (by kernel_rfl) Try.underlying4 rfl ?_
  intro W base args ds ps hval0 hA0 hlt
  have hval : ∀ (j : Nat) t v, Try.f6.params[j]? = some t → args[j]? = some v → Value.okWide Try.prog W .any base t v := hval0
  have hA : DataW.TrodAll enc Try.prog W 0 (fun _ => true) true Try.f6.params.toList args.toList ds ps := hA0
  clear hA0 hval0
  rw [Try.params6] at hA hval
  obtain ⟨v0, vs0, d0, ds0, p0, q0, hargs, rfl, rfl, h0, r0⟩ := trodAll_cons hA
  obtain ⟨v1, vs1, d1, ds1, p1, q1, rfl, rfl, rfl, h1, r1⟩ := trodAll_cons r0
  obtain ⟨rfl, rfl, rfl⟩ := trodAll_nil r1
  obtain rfl : args = #[v0, v1] := by cases args; simp_all
  obtain ⟨a0, rfl, rfl, rfl, w0⟩ := open_int Try.underlying5 (hval 0 5 v0 rfl rfl) h0
  obtain ⟨A1, n1, cap1, V1, rfl, le1, mx1, rd1, lf1⟩ := open_slice_spots (m := 2) (d := 20) (l := [(0, 3), (1, 3)]) Try.underlying48 (by kernel_rfl) (by decide) (by kernel_rfl) (hval 1 48 v1 rfl rfl) h1
  have f1_0 := fun j hj => leaf_int Try.underlying3 (lf1 0 3 (by simp) j hj)
  have f1_1 := fun j hj => leaf_int Try.underlying3 (lf1 1 3 (by simp) j hj)
  refine ⟨⟨rfl, rfl, rfl⟩, ?_⟩
  exact walk a0 A1 n1 cap1 V1 W (bounds_u8 w0) (by omega) rd1 f1_0 (ints f1_1)

theorem over : Rows.tableSetsRow.holds Try.pinned (OpenSpec.ofChange Rows.tableSetsSpec) :=
  OpenClaim.holds_of_wide 6 Try.f6 rfl rfl rfl rfl rfl rfl rfl ⟨rfl, rfl, rfl, rfl, rfl⟩ rfl rfl rfl rfl rfl (by kernel_rfl) Try.func6 (by kernel_rfl)
    (of_decide_eq_true (by kernel_rfl)) (by unfold Func.isWrapper; first | (rw [if_pos (by decide +kernel)]; kernel_rfl) | (rw [if_neg (by decide +kernel)]; exact ⟨rfl, rfl⟩))
    (fun os started H enc _ => lifted os started H enc)
theorem proved : Rows.TableSetsSaid := over
#print axioms proved
end Go.Proofs.Ytlpmnpmgehjmaaa.tableSets
