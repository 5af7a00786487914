/-
  For every size and every script TablePlays answers true, and changes nothing: each answer, and all that lies in a table, is what the document says. No condition.
-/
import Derived.Test.YtlpmnpmgehjmaaaRows
import Derived.Test.YtlpmnpmgehjmaaaFr
import Derived.Test.YtlpmnpmgehjmaaaTabT
import Derived.Test.YtlpmnpmgehjmaaaRd
import Derived.Test.YtlpmnpmgehjmaaaOpen
import Derived.Deep.RegionHeld3
import Derived.Deep.DrawnRows
import Derived.LoopTactic
namespace Go.Proofs.Ytlpmnpmgehjmaaa.tablePlays
open Go.ChangeShapes Go.WideShapes Go.ChangeAt Go.RowKit
set_option linter.unusedVariables false
theorem own : ownKnob Try.prog.godebug = none := by kernel_rfl
theorem laid : laidOutB Try.prog = true := by kernel_rfl
set_option maxRecDepth 100000
set_option maxHeartbeats 2000000
attribute [local go_sem ↓] Go.wp_at_zero Go.wp_at_succ
theorem gens_put {n : Nat} {gen : Nat → Int} {k : Nat} (hg : ∀ j, j < n → 1 ≤ gen j ∧ gen j ≤ k + 1) : ∀ j, j < n → 1 ≤ gen j ∧ gen j ≤ (k + 1 : Nat) + 1 := fun j hj => by have := hg j hj; omega
theorem gens_drop {n : Nat} {gen gen' : Nat → Int} {st st' : Nat → Option Int} {s c v f : Int} {k : Nat} (hR : DropR n gen st s c v f gen' st') (hg : ∀ j, j < n → 1 ≤ gen j ∧ gen j ≤ k + 1) : ∀ j, j < n → 1 ≤ gen' j ∧ gen' j ≤ (k + 1 : Nat) + 1 :=
  fun j hj => by have := hg j hj; rcases hR.gens j with h | h <;> omega
theorem hs_pairs (gen : Nat → Int) (st : Nat → Option Int) (n : Nat) : ∀ k, k < cnt st n → ∃ x y, (hs gen st n)[k * 2]? = some (.int .i64 x) ∧ (hs gen st n)[k * 2 + 1]? = some (.int .u64 y) := fun k hk => by
  have hk' : k < (us st n).length := by rw [us_len]; exact hk
  obtain ⟨h1, h2⟩ := hs_at gen st n k _ (List.getElem?_eq_getElem hk')
  exact ⟨_, _, h1, h2⟩
theorem small (z : Int) (A : Option Addr) (n cap : Nat) (w : World) (hz : z < 1 ∨ 1000 < z) :
    Calls Try.prog 3 #[.int .i64 z, .slice A n cap] w fun r w' => r = .returned (.bool true) ∧ Below w.heap.size w w' := by
  have na := Lib.hid (fun w => New_arg z w hz)
  by_cases h1 : z < 1
  · have d1 : decide (z < 1) = true := decide_eq_true h1
    clear hz
    go_enter Try.func3, Try.ntmps3
    go_wp2_with fail
    refine (awake_any _).mono ?_
    rintro r w1 ⟨rfl, hw1⟩
    go_wp2_with fail
    refine (na.out _).mono ?_
    rintro r w2 ⟨rfl, rfl⟩
    go_wp2_with fail
    go_ret
    exact ⟨rfl, hw1⟩
  · have d1 : decide (z < 1) = false := decide_eq_false h1
    have d2 : decide (1000 < z) = true := decide_eq_true (by omega)
    clear hz
    go_enter Try.func3, Try.ntmps3
    go_wp2_with fail
    refine (awake_any _).mono ?_
    rintro r w1 ⟨rfl, hw1⟩
    go_wp2_with fail
    refine (na.out _).mono ?_
    rintro r w2 ⟨rfl, rfl⟩
    go_wp2_with fail
    go_ret
    exact ⟨rfl, hw1⟩
theorem walk (z0 : Int) (A : Option Addr) (q cap : Nat) (V : Nat → Nat → Value) (w : World) (hm : q ≤ maxLen) (rd : RdM w A q 4 V) (f0 : ∀ j, j < q → ∃ z, V j 0 = .int .i64 z) (f1 : ∀ j, j < q → ∃ z, V j 1 = .int .i64 z) (f2 : ∀ j, j < q → ∃ z, V j 2 = .int .i64 z) (f3 : ∀ j, j < q → ∃ z, V j 3 = .int .u64 z) :
    Calls Try.prog 3 #[.int .i64 z0, .slice A q cap] w fun r w' => r = .returned (.bool true) ∧ Below w.heap.size w w' := by
  unfold maxLen at hm
  by_cases hz : z0 < 1 ∨ 1000 < z0
  · exact small z0 A q cap w hz
  · obtain ⟨n, rfl⟩ : ∃ n : Nat, (n : Int) = z0 := ⟨z0.toNat, by omega⟩
    have h0 : 1 ≤ n := by omega
    have hn : n ≤ 1000 := by omega
    have d1 : decide ((n : Int) < 1) = false := decide_eq_false (by omega)
    have d2 : decide (1000 < (n : Int)) = false := decide_eq_false (by omega)
    clear hz
    go_enter Try.func3, Try.ntmps3
    go_wp2_with fail
    refine (awake_o (St.begin w)).mono ?_
    rintro r w1 ⟨rfl, s1⟩
    go_wp2_with fail
    refine (New_o s1 h0 hn).mono ?_
    rintro r w2 ⟨t, rfl, s2⟩
    go_wp2_with fail
    refine (RNew_o s2 h0 hn).mono ?_
    rintro r w3 ⟨r, rfl, s3'⟩
    have s3 : St w None _ [_, _] := s3'
    clear s1 s2 s3' d1 d2
    go_wp2_with fail
    go_loopw [8] (fun i wr => ∃ k : Nat, ∃ (gen : Nat → Int) (st : Nat → Option Int), k ≤ q ∧ k ≤ 120 ∧ i = .int .i64 k ∧ (∀ j, j < n → 1 ≤ gen j ∧ gen j ≤ k + 1) ∧ St w None wr [TabR t n gen st, RefR r n gen st]) (fun i _ => q - (intOf i).toNat)
    case atStart => exact ⟨0, _, _, by omega, by omega, rfl, fun j hj => ⟨by omega, by omega⟩, s3⟩
    case round =>
      clear s3
      obtain ⟨k, gen, st, hk, hk2, rfl, hg, sr⟩ := hrel
      by_cases hlt : k < q
      · by_cases hlt2 : k < 120
        · obtain ⟨z, hz⟩ := f0 k hlt
          obtain ⟨x, hx⟩ := f1 k hlt
          obtain ⟨s, hs⟩ := f2 k hlt
          obtain ⟨c, hc⟩ := f3 k hlt
          obtain ⟨ib, off, rfl, e0, e1, e2, e3⟩ := rd.at4 sr.below hlt
          rw [hz] at e0; rw [hx] at e1; rw [hs] at e2; rw [hc] at e3
          clear hz hx hs hc
          have sb : St w None _ [_, _, _] := sr.box 34 #[.int .i64 z, .int .i64 x, .int .i64 s, .int .u64 c]
          clear sr
          obtain ⟨q0, q1, q2, q3⟩ := (sb.blk 2 rfl).four
          obtain ⟨db, hdb⟩ : ∃ db, wr.heap.size = db := ⟨_, rfl⟩
          by_cases h0 : z = 0
          · subst h0
            obtain ⟨s', c', f', st', hP⟩ := putR_ex n gen st x
            have HG := Lib.hid (gens_put hg)
            clear hg
            obtain ⟨gen', rfl⟩ : ∃ gen', gen' = gen := ⟨_, rfl⟩
            have HP := Lib.hid hP
            clear hP
            go_wp2_with fail
            refine (Put_o sb 0 rfl hn HP.out).mono ?_
            rintro r' w6 ⟨rfl, s6'⟩
            have s6 : St w None _ [_, _, _, _] := St.box s6' 32 #[.int .i64 s', .int .u64 c']
            clear s6' sb q0 q1 q2 q3
            rw [hdb] at s6
            obtain ⟨q0, q1, q2, q3⟩ := (s6.blk 2 rfl).four
            obtain ⟨eb, heb⟩ : ∃ eb, w6.heap.size = eb := ⟨_, rfl⟩
            go_wp2_with fail
            refine (St.call (RPut_c hn HP.out) (RefR.ok _ _ _ _) s6 1 rfl).mono ?_
            rintro r' w7 ⟨rfl, s7'⟩
            have s7 : St w None _ [_, _, _, _, _] := St.box s7' 32 #[.int .i64 s', .int .u64 c']
            clear s7' s6
            rw [heb] at s7
            obtain ⟨b0, b1⟩ := (s7.blk 3 rfl).two
            obtain ⟨b2, b3⟩ := (s7.blk 4 rfl).two
            have s8 : St w None _ [_, _] := s7.take 2
            clear q0 q1 q2 q3 s7
            have hcn := Lib.hid (Nat.le_trans (cnt_le st' n) hn)
            have hpp := Lib.hid (hs_pairs gen' st' n)
            have hcc := Lib.hid (rfl : cnt st' n = cnt st' n)
            go_wp2_with fail
            refine (RAll_o s8 1 rfl hn).mono ?_
            rintro r' w10 ⟨B, capB, rfl, s9'⟩
            have s9 : St w None _ [_, _, _] := s9'
            clear s9'
            go_wp2_with fail
            refine (All_l s9 0 rfl hn).mono ?_
            rintro r' w11 ⟨C, capC, rfl, s10'⟩
            have s10 : St w None _ [_, _, _, _] := s10'
            clear s10' s9 s8
            go_wp2_with fail
            refine (Same_o s10 hcn.out 3 2 rfl rfl hpp.out).mono ?_
            rintro r' w12 ⟨rfl, s11⟩
            go_wp2_with fail
            refine (Count_o s11 0 rfl hn _ rfl).mono ?_
            rintro r' w13 ⟨rfl, s12⟩
            have s13 : St w None _ [_, _] := s12.take 2
            clear s10 s11 s12
            generalize cnt st' n = cc at *
            go_wp2
            go_roundw
            case rel => exact ⟨k + 1, _, _, by omega, by omega, by go_num, HG.out, s13⟩
            case measure => simp [intOf]; omega
          · have z0 : (z == 0) = false := beq_eq_false_iff_ne.2 h0
            by_cases h1 : z = 1
            · subst h1
              obtain ⟨v', f', hP⟩ := getR_ex n gen st s c
              have HG := Lib.hid (gens_put hg)
              clear hg
              obtain ⟨gen', rfl⟩ : ∃ gen', gen' = gen := ⟨_, rfl⟩
              obtain ⟨st', rfl⟩ : ∃ st', st' = st := ⟨_, rfl⟩
              have HP := Lib.hid hP
              clear hP
              go_wp2_with fail
              refine (Get_o sb 0 rfl hn HP.out).mono ?_
              rintro r' w6 ⟨rfl, s6⟩
              rw [hdb] at s6
              clear q0 q1 q2 q3 sb
              obtain ⟨q0, q1, q2, q3⟩ := (s6.blk 2 rfl).four
              go_wp2_with fail
              refine (St.call (RGet_c hn HP.out) (RefR.ok _ _ _ _) s6 1 rfl).mono ?_
              rintro r' w7 ⟨rfl, s7⟩
              have s8 : St w None _ [_, _] := s7.take 2
              clear q0 q1 q2 q3 s7 s6
              have hcn := Lib.hid (Nat.le_trans (cnt_le st' n) hn)
              have hpp := Lib.hid (hs_pairs gen' st' n)
              have hcc := Lib.hid (rfl : cnt st' n = cnt st' n)
              go_wp2_with fail
              refine (RAll_o s8 1 rfl hn).mono ?_
              rintro r' w10 ⟨B, capB, rfl, s9'⟩
              have s9 : St w None _ [_, _, _] := s9'
              clear s9'
              go_wp2_with fail
              refine (All_l s9 0 rfl hn).mono ?_
              rintro r' w11 ⟨C, capC, rfl, s10'⟩
              have s10 : St w None _ [_, _, _, _] := s10'
              clear s10' s9 s8
              go_wp2_with fail
              refine (Same_o s10 hcn.out 3 2 rfl rfl hpp.out).mono ?_
              rintro r' w12 ⟨rfl, s11⟩
              go_wp2_with fail
              refine (Count_o s11 0 rfl hn _ rfl).mono ?_
              rintro r' w13 ⟨rfl, s12⟩
              have s13 : St w None _ [_, _] := s12.take 2
              clear s10 s11 s12
              generalize cnt st' n = cc at *
              go_wp2
              go_roundw
              case rel => exact ⟨k + 1, _, _, by omega, by omega, by go_num, HG.out, s13⟩
              case measure => simp [intOf]; omega
            · have z1 : (z == 1) = false := beq_eq_false_iff_ne.2 h1
              by_cases h2 : z = 2
              · subst h2
                obtain ⟨f', st', hP⟩ := setR_ex n gen st s c x
                have HG := Lib.hid (gens_put hg)
                clear hg
                obtain ⟨gen', rfl⟩ : ∃ gen', gen' = gen := ⟨_, rfl⟩
                have HP := Lib.hid hP
                clear hP
                go_wp2_with fail
                rw [hdb] at sb q0 q1 q2 q3
                have qq := (sb.blk 2 rfl).four
                go_region_held3 (fun w' => w'.cell? ⟨db, 0, none⟩ = some (.int .i64 2) ∧ w'.cell? ⟨db, 1, none⟩ = some (.int .i64 x) ∧ w'.cell? ⟨db, 2, none⟩ = some (.int .i64 s) ∧ w'.cell? ⟨db, 3, none⟩ = some (.int .u64 c)) (go_keep)
                  (first
                    | (go_at_call 17; refine (Set_o sb.drew 0 rfl hn HP.out).mono ?_; rintro r' w6 ⟨rfl, s6⟩; have q6 := (s6.blk 2 rfl).four)
                    | (go_at_call 18; refine (St.call (RSet_c hn HP.out) (RefR.ok _ _ _ _) s6 1 rfl).mono ?_; rintro r' w7 ⟨rfl, s7⟩; have q7 := (s7.blk 2 rfl).four))
                have s8 : St w None _ [_, _] := s7.take 2
                clear q0 q1 q2 q3 qq q6 q7 s6 s7 sb
                have hcn := Lib.hid (Nat.le_trans (cnt_le st' n) hn)
                have hpp := Lib.hid (hs_pairs gen' st' n)
                have hcc := Lib.hid (rfl : cnt st' n = cnt st' n)
                go_wp2_with fail
                refine (RAll_o s8 1 rfl hn).mono ?_
                rintro r' w10 ⟨B, capB, rfl, s9'⟩
                have s9 : St w None _ [_, _, _] := s9'
                clear s9'
                go_wp2_with fail
                refine (All_l s9 0 rfl hn).mono ?_
                rintro r' w11 ⟨C, capC, rfl, s10'⟩
                have s10 : St w None _ [_, _, _, _] := s10'
                clear s10' s9 s8
                go_wp2_with fail
                refine (Same_o s10 hcn.out 3 2 rfl rfl hpp.out).mono ?_
                rintro r' w12 ⟨rfl, s11⟩
                go_wp2_with fail
                refine (Count_o s11 0 rfl hn _ rfl).mono ?_
                rintro r' w13 ⟨rfl, s12⟩
                have s13 : St w None _ [_, _] := s12.take 2
                clear s10 s11 s12
                generalize cnt st' n = cc at *
                go_wp2
                go_roundw
                case rel => exact ⟨k + 1, _, _, by omega, by omega, by go_num, HG.out, s13⟩
                case measure => simp [intOf]; omega
              · have z2 : (z == 2) = false := beq_eq_false_iff_ne.2 h2
                obtain ⟨v', f', gen', st', hP⟩ := dropR_ex n gen st s c
                have HG := Lib.hid (gens_drop hP hg)
                have HB := Lib.hid (show ∀ i, i < n → 0 ≤ gen i ∧ gen i < 18446744073709551615 from fun i hi => by have := hg i hi; omega)
                have HP := Lib.hid hP
                clear hg hP
                go_wp2_with fail
                refine (Drop_o sb 0 rfl hn HB.out HP.out).mono ?_
                rintro r' w6 ⟨rfl, s6⟩
                rw [hdb] at s6
                clear q0 q1 q2 q3 sb
                obtain ⟨q0, q1, q2, q3⟩ := (s6.blk 2 rfl).four
                go_wp2_with fail
                refine (St.call (RDrop_c hn HB.out HP.out) (RefR.ok _ _ _ _) s6 1 rfl).mono ?_
                rintro r' w7 ⟨rfl, s7⟩
                have s8 : St w None _ [_, _] := s7.take 2
                clear q0 q1 q2 q3 s7 s6
                have hcn := Lib.hid (Nat.le_trans (cnt_le st' n) hn)
                have hpp := Lib.hid (hs_pairs gen' st' n)
                have hcc := Lib.hid (rfl : cnt st' n = cnt st' n)
                go_wp2_with fail
                refine (RAll_o s8 1 rfl hn).mono ?_
                rintro r' w10 ⟨B, capB, rfl, s9'⟩
                have s9 : St w None _ [_, _, _] := s9'
                clear s9'
                go_wp2_with fail
                refine (All_l s9 0 rfl hn).mono ?_
                rintro r' w11 ⟨C, capC, rfl, s10'⟩
                have s10 : St w None _ [_, _, _, _] := s10'
                clear s10' s9 s8
                go_wp2_with fail
                refine (Same_o s10 hcn.out 3 2 rfl rfl hpp.out).mono ?_
                rintro r' w12 ⟨rfl, s11⟩
                go_wp2_with fail
                refine (Count_o s11 0 rfl hn _ rfl).mono ?_
                rintro r' w13 ⟨rfl, s12⟩
                have s13 : St w None _ [_, _] := s12.take 2
                clear s10 s11 s12
                generalize cnt st' n = cc at *
                go_wp2
                go_roundw
                case rel => exact ⟨k + 1, _, _, by omega, by omega, by go_num, HG.out, s13⟩
                case measure => simp [intOf]; omega
        · go_wp2
          go_ret
          exact ⟨rfl, sr.below⟩
      · go_wp2
        go_ret
        exact ⟨rfl, sr.below⟩

set_option maxRecDepth 100000 in
theorem lifted (os : Os) (started : os.Started) (H : Type) (enc : TypeId × Value → H) :
    ReturnsInHanded {} Try.checked os 3 .any (Rows.tablePlaysSpec.pre6 enc Try.prog Try.f3 Rows.tablePlaysRow.domain false) (Rows.tablePlaysSpec.post enc Try.prog Try.f3 false true false false) := by
  refine law_lifted (C := Try.checked) (tb := 4) own started (by kernel_rfl) Try.func3
    (ChangeSpec.witness6 (enc := enc) (C := Try.checked) false ⟨#[], #[.int .i64 0, .slice none 0 0], []⟩ 8 (by kernel_rfl) (by kernel_rfl) (by kernel_rfl) (by kernel_rfl)) laid (by kernel_rfl) (by kernel_rfl) Try.underlying4 rfl ?_
  intro W base args ds ps hval0 hA0 hlt
  have hval : ∀ (j : Nat) t v, Try.f3.params[j]? = some t → args[j]? = some v → Value.okWide Try.prog W .any base t v := hval0
  have hA : DataW.TrodAll enc Try.prog W 0 (fun _ => true) true Try.f3.params.toList args.toList ds ps := hA0
  clear hA0 hval0
  rw [Try.params3] at hA hval
  obtain ⟨v0, vs0, d0, ds0, p0, q0, hargs, rfl, rfl, h0, r0⟩ := trodAll_cons hA
  obtain ⟨v1, vs1, d1, ds1, p1, q1, rfl, rfl, rfl, h1, r1⟩ := trodAll_cons r0
  obtain ⟨rfl, rfl, rfl⟩ := trodAll_nil r1
  obtain rfl : args = #[v0, v1] := by cases args; simp_all
  obtain ⟨a0, rfl, rfl, rfl, w0⟩ := open_int Try.underlying3 (hval 0 3 v0 rfl rfl) h0
  obtain ⟨A1, n1, cap1, V1, rfl, le1, mx1, rd1, lf1⟩ := open_slice_spots (m := 4) (d := 20) (l := [(0, 3), (1, 3), (2, 3), (3, 30)]) Try.underlying22 (by kernel_rfl) (by decide) (by kernel_rfl) (hval 1 22 v1 rfl rfl) h1
  have f1_0 := fun j hj => leaf_int Try.underlying3 (lf1 0 3 (by simp) j hj)
  have f1_1 := fun j hj => leaf_int Try.underlying3 (lf1 1 3 (by simp) j hj)
  have f1_2 := fun j hj => leaf_int Try.underlying3 (lf1 2 3 (by simp) j hj)
  have f1_3 := fun j hj => leaf_int Try.underlying30 (lf1 3 30 (by simp) j hj)
  refine ⟨⟨rfl, rfl, rfl⟩, ?_⟩
  exact walk a0 A1 n1 cap1 V1 W (by omega) rd1 (ints f1_0) (ints f1_1) (ints f1_2) (ints f1_3)

theorem over : Rows.tablePlaysRow.holds Try.pinned (OpenSpec.ofChange Rows.tablePlaysSpec) :=
  OpenClaim.holds_of_wide 3 Try.f3 rfl rfl rfl rfl rfl rfl rfl ⟨rfl, rfl, rfl, rfl, rfl⟩ rfl rfl rfl rfl rfl (by kernel_rfl) Try.func3 (by kernel_rfl)
    (of_decide_eq_true (by kernel_rfl)) (by unfold Func.isWrapper; first | (rw [if_pos (by decide +kernel)]; kernel_rfl) | (rw [if_neg (by decide +kernel)]; exact ⟨rfl, rfl⟩))
    (fun os started H enc _ => lifted os started H enc)
theorem proved : Rows.TablePlaysSaid := over
#print axioms proved
end Go.Proofs.Ytlpmnpmgehjmaaa.tablePlays
