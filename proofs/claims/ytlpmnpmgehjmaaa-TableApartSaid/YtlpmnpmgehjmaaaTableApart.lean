/-
  For every script TableApart answers true, and changes nothing: two tables don't touch one another. No condition.
-/
import Derived.Test.YtlpmnpmgehjmaaaRows
import Derived.Test.YtlpmnpmgehjmaaaFr
import Derived.Test.YtlpmnpmgehjmaaaTabO
import Derived.Test.YtlpmnpmgehjmaaaRd
import Derived.Test.YtlpmnpmgehjmaaaOpen
import Derived.LoopTactic
namespace Go.Proofs.Ytlpmnpmgehjmaaa.tableApart
open Go.ChangeShapes Go.WideShapes Go.ChangeAt Go.RowKit
set_option linter.unusedVariables false
theorem own : ownKnob Try.prog.godebug = none := by kernel_rfl
theorem laid : laidOutB Try.prog = true := by kernel_rfl
set_option maxRecDepth 100000
def one77 : Nat → Option Int := fun j => if j = 0 then some 77 else none
theorem cnt77 : cnt one77 5 = 1 := rfl
theorem gens_put {n : Nat} {gen : Nat → Int} {k : Nat} (hg : ∀ j, j < n → 1 ≤ gen j ∧ gen j ≤ k + 1) : ∀ j, j < n → 1 ≤ gen j ∧ gen j ≤ (k + 1 : Nat) + 1 := fun j hj => by have := hg j hj; omega
theorem gens_drop {n : Nat} {gen gen' : Nat → Int} {st st' : Nat → Option Int} {s c v f : Int} {k : Nat} (hR : DropR n gen st s c v f gen' st') (hg : ∀ j, j < n → 1 ≤ gen j ∧ gen j ≤ k + 1) : ∀ j, j < n → 1 ≤ gen' j ∧ gen' j ≤ (k + 1 : Nat) + 1 :=
  fun j hj => by have := hg j hj; rcases hR.gens j with h | h <;> omega
theorem walk (A : Option Addr) (n cap : Nat) (V : Nat → Nat → Value) (w : World) (hm : n ≤ maxLen) (rd : RdM w A n 4 V) (f0 : ∀ j, j < n → ∃ z, V j 0 = .int .i64 z) (f1 : ∀ j, j < n → ∃ z, V j 1 = .int .i64 z) (f2 : ∀ j, j < n → ∃ z, V j 2 = .int .i64 z) (f3 : ∀ j, j < n → ∃ z, V j 3 = .int .u64 z) :
    Calls Try.prog 9 #[.slice A n cap] w fun r w' => r = .returned (.bool true) ∧ Below w.heap.size w w' := by
  unfold maxLen at hm
  go_enter Try.func9, Try.ntmps9
  go_wp2_with fail
  refine (awake_o (St.begin w)).mono ?_
  rintro r w1 ⟨rfl, s1⟩
  go_wp2_with fail
  refine (New_o s1 (n := 5) (by omega) (by omega)).mono ?_
  rintro r w2 ⟨a, rfl, s2⟩
  go_wp2_with fail
  refine (New_o s2 (n := 5) (by omega) (by omega)).mono ?_
  rintro r w3 ⟨b, rfl, s3⟩
  go_wp2_with fail
  refine (Put_o1 s3 1 rfl 0 (by omega) (by omega) (fun j hj => absurd hj (by omega)) rfl).mono ?_
  rintro r w4 ⟨rfl, s4⟩
  have s5 : St w None _ [_, _, _] := s4.box 32 #[.int .i64 0, .int .u64 1]
  clear s1 s2 s3 s4
  go_wp2_with fail
  generalize w4.heap.size = hb at *
  go_loopw [9] (fun i wr => ∃ k : Nat, ∃ (gen : Nat → Int) (st : Nat → Option Int), k ≤ n ∧ k ≤ 60 ∧ i = .int .i64 k ∧ (∀ j, j < 5 → 1 ≤ gen j ∧ gen j ≤ k + 1) ∧ St w None wr [TabR a 5 gen st, TabR b 5 (fun _ => 1) one77, BlkR hb 32 #[.int .i64 0, .int .u64 1]]) (fun i _ => n - (intOf i).toNat)
  case atStart => exact ⟨0, _, _, by omega, by omega, rfl, fun j hj => ⟨by omega, by omega⟩, s5⟩
  case round =>
    obtain ⟨k, gen, st, hk, hk2, rfl, hg, sr⟩ := hrel
    by_cases hlt : k < n
    · by_cases hlt2 : k < 60
      · obtain ⟨z, hz⟩ := f0 k hlt
        obtain ⟨x, hx⟩ := f1 k hlt
        obtain ⟨s, hs⟩ := f2 k hlt
        obtain ⟨c, hc⟩ := f3 k hlt
        obtain ⟨ib, off, rfl, e0, e1, e2, e3⟩ := rd.at4 sr.below hlt
        rw [hz] at e0; rw [hx] at e1; rw [hs] at e2; rw [hc] at e3
        clear hz hx hs hc
        have sb := sr.alloc (.cells #[.int .i64 z, .int .i64 x, .int .i64 s, .int .u64 c] 34)
        by_cases h0 : z = 0
        · subst h0
          obtain ⟨s', c', f', st', hP⟩ := putR_ex 5 gen st x
          have HG := Lib.hid (gens_put hg)
          clear hg
          go_wp2_with fail
          refine (Put_o sb 0 rfl (by omega) hP).mono ?_
          rintro r w6 ⟨rfl, s6⟩
          clear hP
          have hr := Lib.hid (show GetR 5 (fun _ => 1) one77 0 1 77 0 from Or.inl ⟨0, by omega, rfl, rfl, rfl, rfl⟩)
          obtain ⟨b0, b1⟩ := (s6.blk 2 rfl).two
          go_wp2_with fail
          refine (Get_o s6 1 rfl (by omega) hr.out).mono ?_
          rintro r w7 ⟨rfl, s7⟩
          go_wp2_with fail
          refine (Count_o s7 1 rfl (by omega) 1 cnt77).mono ?_
          rintro r w8 ⟨rfl, s8⟩
          go_wp2_with fail
          refine (All_o s8 1 rfl (by omega) 1 cnt77).mono ?_
          rintro r w9 ⟨B, capB, rfl, s9⟩
          go_wp2
          go_roundw
          case rel => exact ⟨k + 1, _, _, by omega, by omega, by go_num, HG.out, s9⟩
          case measure => simp [intOf]; omega
        · have z0 : (z == 0) = false := beq_eq_false_iff_ne.2 h0
          by_cases h2 : z = 2
          · subst h2
            obtain ⟨f', st', hP⟩ := setR_ex 5 gen st s c x
            have HG := Lib.hid (gens_put hg)
            clear hg
            go_wp2_with fail
            refine (Set_o sb 0 rfl (by omega) hP).mono ?_
            rintro r w6 ⟨rfl, s6⟩
            clear hP
            have hr := Lib.hid (show GetR 5 (fun _ => 1) one77 0 1 77 0 from Or.inl ⟨0, by omega, rfl, rfl, rfl, rfl⟩)
            obtain ⟨b0, b1⟩ := (s6.blk 2 rfl).two
            go_wp2_with fail
            refine (Get_o s6 1 rfl (by omega) hr.out).mono ?_
            rintro r w7 ⟨rfl, s7⟩
            go_wp2_with fail
            refine (Count_o s7 1 rfl (by omega) 1 cnt77).mono ?_
            rintro r w8 ⟨rfl, s8⟩
            go_wp2_with fail
            refine (All_o s8 1 rfl (by omega) 1 cnt77).mono ?_
            rintro r w9 ⟨B, capB, rfl, s9⟩
            go_wp2
            go_roundw
            case rel => exact ⟨k + 1, _, _, by omega, by omega, by go_num, HG.out, s9⟩
            case measure => simp [intOf]; omega
          · have z2 : (z == 2) = false := beq_eq_false_iff_ne.2 h2
            by_cases h3 : z = 3
            · subst h3
              obtain ⟨v', f', gen', st', hP⟩ := dropR_ex 5 gen st s c
              have HG := Lib.hid (gens_drop hP hg)
              have hg2 : ∀ i, i < 5 → 0 ≤ gen i ∧ gen i < 18446744073709551615 := fun i hi => by have := hg i hi; omega
              clear hg
              go_wp2_with fail
              refine (Drop_o sb 0 rfl (by omega) hg2 hP).mono ?_
              rintro r w6 ⟨rfl, s6⟩
              clear hP
              have hr := Lib.hid (show GetR 5 (fun _ => 1) one77 0 1 77 0 from Or.inl ⟨0, by omega, rfl, rfl, rfl, rfl⟩)
              obtain ⟨b0, b1⟩ := (s6.blk 2 rfl).two
              go_wp2_with fail
              refine (Get_o s6 1 rfl (by omega) hr.out).mono ?_
              rintro r w7 ⟨rfl, s7⟩
              go_wp2_with fail
              refine (Count_o s7 1 rfl (by omega) 1 cnt77).mono ?_
              rintro r w8 ⟨rfl, s8⟩
              go_wp2_with fail
              refine (All_o s8 1 rfl (by omega) 1 cnt77).mono ?_
              rintro r w9 ⟨B, capB, rfl, s9⟩
              go_wp2
              go_roundw
              case rel => exact ⟨k + 1, _, _, by omega, by omega, by go_num, HG.out, s9⟩
              case measure => simp [intOf]; omega
            · have z3 : (z == 3) = false := beq_eq_false_iff_ne.2 h3
              have HG := Lib.hid (gens_put hg)
              have s6 := sb
              clear hg
              have hr := Lib.hid (show GetR 5 (fun _ => 1) one77 0 1 77 0 from Or.inl ⟨0, by omega, rfl, rfl, rfl, rfl⟩)
              obtain ⟨b0, b1⟩ := (s6.blk 2 rfl).two
              go_wp2_with fail
              refine (Get_o s6 1 rfl (by omega) hr.out).mono ?_
              rintro r w7 ⟨rfl, s7⟩
              go_wp2_with fail
              refine (Count_o s7 1 rfl (by omega) 1 cnt77).mono ?_
              rintro r w8 ⟨rfl, s8⟩
              go_wp2_with fail
              refine (All_o s8 1 rfl (by omega) 1 cnt77).mono ?_
              rintro r w9 ⟨B, capB, rfl, s9⟩
              go_wp2
              go_roundw
              case rel => exact ⟨k + 1, _, _, by omega, by omega, by go_num, HG.out, s9⟩
              case measure => simp [intOf]; omega
      · go_wp2
        go_ret
        exact ⟨rfl, sr.below⟩
    · go_wp2
      go_ret
      exact ⟨rfl, sr.below⟩

set_option maxRecDepth 100000 in
theorem lifted (os : Os) (started : os.Started) (H : Type) (enc : TypeId × Value → H) :
    ReturnsInHanded {} Try.checked os 9 .any (Rows.tableApartSpec.pre6 enc Try.prog Try.f9 Rows.tableApartRow.domain false) (Rows.tableApartSpec.post enc Try.prog Try.f9 false true false false) := by
  refine law_lifted (C := Try.checked) (tb := 4) own started (by kernel_rfl) Try.func9
    (ChangeSpec.witness6 (enc := enc) (C := Try.checked) false ⟨#[], #[.slice none 0 0], []⟩ 8 (by kernel_rfl) (by kernel_rfl) (by kernel_rfl) (by kernel_rfl)) laid (by kernel_rfl) (by kernel_rfl) Try.underlying4 rfl ?_
  intro W base args ds ps hval0 hA0 hlt
  have hval : ∀ (j : Nat) t v, Try.f9.params[j]? = some t → args[j]? = some v → Value.okWide Try.prog W .any base t v := hval0
  have hA : DataW.TrodAll enc Try.prog W 0 (fun _ => true) true Try.f9.params.toList args.toList ds ps := hA0
  clear hA0 hval0
  rw [Try.params9] at hA hval
  obtain ⟨v0, vs0, d0, ds0, p0, q0, hargs, rfl, rfl, h0, r0⟩ := trodAll_cons hA
  obtain ⟨rfl, rfl, rfl⟩ := trodAll_nil r0
  obtain rfl : args = #[v0] := by cases args; simp_all
  obtain ⟨A0, n0, cap0, V0, rfl, le0, mx0, rd0, lf0⟩ := open_slice_spots (m := 4) (d := 20) (l := [(0, 3), (1, 3), (2, 3), (3, 30)]) Try.underlying22 (by kernel_rfl) (by decide) (by kernel_rfl) (hval 0 22 v0 rfl rfl) h0
  have f0_0 := fun j hj => leaf_int Try.underlying3 (lf0 0 3 (by simp) j hj)
  have f0_1 := fun j hj => leaf_int Try.underlying3 (lf0 1 3 (by simp) j hj)
  have f0_2 := fun j hj => leaf_int Try.underlying3 (lf0 2 3 (by simp) j hj)
  have f0_3 := fun j hj => leaf_int Try.underlying30 (lf0 3 30 (by simp) j hj)
  refine ⟨⟨rfl, rfl, rfl⟩, ?_⟩
  exact walk A0 n0 cap0 V0 W (by omega) rd0 (ints f0_0) (ints f0_1) (ints f0_2) (ints f0_3)

theorem over : Rows.tableApartRow.holds Try.pinned (OpenSpec.ofChange Rows.tableApartSpec) :=
  OpenClaim.holds_of_wide 9 Try.f9 rfl rfl rfl rfl rfl rfl rfl ⟨rfl, rfl, rfl, rfl, rfl⟩ rfl rfl rfl rfl rfl (by kernel_rfl) Try.func9 (by kernel_rfl)
    (of_decide_eq_true (by kernel_rfl)) (by unfold Func.isWrapper; first | (rw [if_pos (by decide +kernel)]; kernel_rfl) | (rw [if_neg (by decide +kernel)]; exact ⟨rfl, rfl⟩))
    (fun os started H enc _ => lifted os started H enc)
theorem proved : Rows.TableApartSaid := over
#print axioms proved
end Go.Proofs.Ytlpmnpmgehjmaaa.tableApart
