/-
  For every size, value and two scripts TableStale answers true, and changes nothing: a handle tells what was put with it till it is dropped, and is stale from then on. No condition.
-/
import Derived.Test.YtlpmnpmgehjmaaaRows
import Derived.Test.YtlpmnpmgehjmaaaFr
import Derived.Test.YtlpmnpmgehjmaaaTabO
import Derived.Test.YtlpmnpmgehjmaaaRd
import Derived.Test.YtlpmnpmgehjmaaaOpen
import Derived.LoopTactic
namespace Go.Proofs.Ytlpmnpmgehjmaaa.tableStale
open Go.ChangeShapes Go.WideShapes Go.ChangeAt Go.RowKit
set_option linter.unusedVariables false
theorem own : ownKnob Try.prog.godebug = none := by kernel_rfl
theorem laid : laidOutB Try.prog = true := by kernel_rfl
set_option maxRecDepth 100000
set_option maxHeartbeats 1000000
/-- The handle's slot still holds the value, with its generation. -/
def Alive (v : Int) (n : Nat) (gen : Nat → Int) (st : Nat → Option Int) : Prop := st 0 = some v ∧ gen 0 = 1
theorem gens_put {n : Nat} {gen : Nat → Int} {k : Nat} (hg : ∀ j, j < n → 1 ≤ gen j ∧ gen j ≤ k + 1) : ∀ j, j < n → 1 ≤ gen j ∧ gen j ≤ (k + 1 : Nat) + 1 := fun j hj => by have := hg j hj; omega
theorem gens_drop {n : Nat} {gen gen' : Nat → Int} {st st' : Nat → Option Int} {s c v f : Int} {k : Nat} (hR : DropR n gen st s c v f gen' st') (hg : ∀ j, j < n → 1 ≤ gen j ∧ gen j ≤ k + 1) : ∀ j, j < n → 1 ≤ gen' j ∧ gen' j ≤ (k + 1 : Nat) + 1 :=
  fun j hj => by have := hg j hj; rcases hR.gens j with h | h <;> omega
theorem alive_put {v x s c f : Int} {n : Nat} {gen : Nat → Int} {st st' : Nat → Option Int} (h : Alive v n gen st) (hR : PutR n gen st x s c f st') : Alive v n gen st' := by
  rcases hR with ⟨i, hi, hs, hf, _, _, _, rfl⟩ | ⟨_, _, _, _, rfl⟩
  · have hne : (0 : Nat) ≠ i := fun e => by subst e; rw [h.1] at hf; cases hf
    exact ⟨by simp [hne]; exact h.1, h.2⟩
  · exact h
theorem alive_drop {v v' s c f : Int} {n : Nat} {gen gen' : Nat → Int} {st st' : Nat → Option Int} (h : Alive v n gen st) (hR : DropR n gen st s c v' f gen' st') (hne : ¬ (s = 0 ∧ c = 1)) : Alive v n gen' st' := by
  rcases hR with ⟨i, hi, rfl, rfl, _, _, rfl, rfl⟩ | ⟨_, _, _, rfl, rfl⟩
  · have hni : (0 : Nat) ≠ i := fun e => by subst e; exact hne ⟨rfl, h.2⟩
    exact ⟨by simp [hni]; exact h.1, by simp [hni]; exact h.2⟩
  · exact h
theorem alive_get {v : Int} {n : Nat} {gen : Nat → Int} {st : Nat → Option Int} (h : Alive v n gen st) (hn : 1 ≤ n) : GetR n gen st 0 1 v 0 := Or.inl ⟨0, by omega, rfl, h.2.symm, h.1, rfl⟩
/-- Gone: the slot's generation is past. -/
theorem gone_stale {n : Nat} {gen : Nat → Int} {st : Nat → Option Int} (h : 2 ≤ gen 0) : Stale n gen st 0 1 := Or.inr (Or.inr (Or.inr (by simp; omega)))
theorem gone_drop {v s c f : Int} {n : Nat} {gen gen' : Nat → Int} {st st' : Nat → Option Int} (hR : DropR n gen st s c v f gen' st') (h : 2 ≤ gen 0) : 2 ≤ gen' 0 := by rcases hR.gens 0 with e | e <;> omega
theorem walk (a v : Int) (A : Option Addr) (n0 cap : Nat) (V : Nat → Nat → Value) (A' : Option Addr) (n1 cap' : Nat) (V' : Nat → Nat → Value) (w : World) (ba : 0 ≤ a ∧ a ≤ 255) (hm : n0 ≤ maxLen) (hm' : n1 ≤ maxLen)
    (rd0 : RdM w A n0 4 V) (f00 : ∀ j, j < n0 → ∃ z, V j 0 = .int .i64 z) (f01 : ∀ j, j < n0 → ∃ z, V j 1 = .int .i64 z) (f02 : ∀ j, j < n0 → ∃ z, V j 2 = .int .i64 z) (f03 : ∀ j, j < n0 → ∃ z, V j 3 = .int .u64 z)
    (rd1 : RdM w A' n1 4 V') (f10 : ∀ j, j < n1 → ∃ z, V' j 0 = .int .i64 z) (f11 : ∀ j, j < n1 → ∃ z, V' j 1 = .int .i64 z) (f12 : ∀ j, j < n1 → ∃ z, V' j 2 = .int .i64 z) (f13 : ∀ j, j < n1 → ∃ z, V' j 3 = .int .u64 z) :
    Calls Try.prog 4 #[.int .u8 a, .int .i64 v, .agg #[.slice A n0 cap, .slice A' n1 cap']] w fun r w' => r = .returned (.bool true) ∧ Below w.heap.size w w' := by
  unfold maxLen at hm hm'
  have g0 : 0 ≤ a % 20 := Int.emod_nonneg _ (by omega)
  have g1 : a % 20 < 20 := Int.emod_lt_of_pos _ (by omega)
  obtain ⟨m, hm20⟩ : ∃ m : Nat, (m : Int) = a % 20 := ⟨(a % 20).toNat, by omega⟩
  obtain ⟨n, hnn⟩ : ∃ n : Nat, n = 1 + m := ⟨_, rfl⟩
  have hn1 : 1 ≤ n := by omega
  have hn2 : n ≤ 1000 := by omega
  have NEW := Lib.hid (fun (wz : World) (L : List Res) (h : St w None wz L) => New_o (n := n) h hn1 hn2)
  have b00 : (1 : Int) + a % 20 = n := by omega
  rw [← b00] at NEW
  have HN := Lib.hid b00
  clear b00 hnn hm20
  go_enter Try.func4, Try.ntmps4
  go_wp2_with fail
  have sb : St w None _ [_] := (St.begin w).box 45 #[.slice A n0 cap, .slice A' n1 cap']
  refine (awake_o sb).mono ?_
  rintro r w1 ⟨rfl, s1⟩
  obtain ⟨b0, b1⟩ := (s1.blk 0 rfl).two
  go_wp2_with fail
  refine (NEW.out _ _ s1).mono ?_
  rintro r w2 ⟨t, rfl, s2⟩
  clear NEW g0 g1
  go_wp2_with fail
  refine (Put_o1 s2 1 rfl 0 hn2 (by omega) (fun j hj => absurd hj (by omega)) rfl).mono ?_
  rintro r w4 ⟨rfl, s4⟩
  have s5 := s4.box 32 #[.int .i64 0, .int .u64 1]
  have s6 : St w None _ [_, _] := s5.drop 0 (by simp)
  clear b0 b1 s1 s2 s4 s5 sb
  go_wp2_with fail
  generalize w4.heap.size = hb at *
  go_loopw [13] (fun i wr => ∃ k : Nat, ∃ (gen : Nat → Int) (st : Nat → Option Int), k ≤ n0 ∧ k ≤ 120 ∧ i = .int .i64 k ∧ (∀ j, j < n → 1 ≤ gen j ∧ gen j ≤ k + 1) ∧ Alive v n gen st ∧ St w None wr [TabR t n gen st, BlkR hb 32 #[.int .i64 0, .int .u64 1]]) (fun i _ => n0 - (intOf i).toNat)
  case atStart => exact ⟨0, _, _, by omega, by omega, rfl, fun j hj => ⟨by omega, by omega⟩, ⟨rfl, rfl⟩, s6⟩
  case round =>
    clear s6
    obtain ⟨k, gen, st, hk, hk2, rfl, hg, hA, sr⟩ := hrel
    by_cases hlt : k < n0
    · by_cases hlt2 : k < 120
      · obtain ⟨z, hz⟩ := f00 k hlt
        obtain ⟨x, hx⟩ := f01 k hlt
        obtain ⟨s, hs⟩ := f02 k hlt
        obtain ⟨c, hc⟩ := f03 k hlt
        obtain ⟨ib, off, rfl, e0, e1, e2, e3⟩ := rd0.at4 sr.below hlt
        rw [hz] at e0; rw [hx] at e1; rw [hs] at e2; rw [hc] at e3
        clear hz hx hs hc
        have sb := sr.alloc (.cells #[.int .i64 z, .int .i64 x, .int .i64 s, .int .u64 c] 34)
        by_cases h0 : z = 0
        · subst h0
          obtain ⟨s', c', f', st', hP⟩ := putR_ex n gen st x
          have HG := Lib.hid (gens_put hg)
          have HA := Lib.hid (alive_put hA hP)
          clear hg hA
          go_wp2_with fail
          refine (Put_o sb 0 rfl hn2 hP).mono ?_
          rintro r w6 ⟨rfl, s6⟩
          clear hP
          have hr := Lib.hid (alive_get HA.out hn1)
          obtain ⟨b0, b1⟩ := (s6.blk 1 rfl).two
          go_wp2_with fail
          refine (Get_o s6 0 rfl hn2 hr.out).mono ?_
          rintro r w7 ⟨rfl, s7⟩
          go_wp2
          go_roundw
          case rel => exact ⟨k + 1, _, _, by omega, by omega, by go_num, HG.out, HA.out, s7⟩
          case measure => simp [intOf]; omega
        · have z0 : (z == 0) = false := beq_eq_false_iff_ne.2 h0
          by_cases h3 : z = 3
          · subst h3
            by_cases hsc : s = 0 ∧ c = 1
            · obtain ⟨rfl, rfl⟩ := hsc
              have HG := Lib.hid (gens_put hg)
              have HA := Lib.hid hA
              have s6 := sb
              clear hg hA
              obtain ⟨q0, q1⟩ := (sb.blk 1 rfl).two
              go_wp2_with fail
              have hr := Lib.hid (alive_get HA.out hn1)
              refine (Get_o s6 0 rfl hn2 hr.out).mono ?_
              rintro r w7 ⟨rfl, s7⟩
              go_wp2
              go_roundw
              case rel => exact ⟨k + 1, _, _, by omega, by omega, by go_num, HG.out, HA.out, s7⟩
              case measure => simp [intOf]; omega
            · obtain ⟨v', f', gen', st', hP⟩ := dropR_ex n gen st s c
              have HG := Lib.hid (gens_drop hP hg)
              have HA := Lib.hid (alive_drop hA hP hsc)
              have hg2 := Lib.hid (show ∀ i, i < n → 0 ≤ gen i ∧ gen i < 18446744073709551615 from fun i hi => by have := hg i hi; omega)
              clear hg hA
              obtain ⟨q0, q1⟩ := (sb.blk 1 rfl).two
              by_cases hs0 : s = 0
              · subst hs0
                have hc1 : c ≠ 1 := fun e => hsc ⟨rfl, e⟩
                have hc2 : (c == 1) = false := beq_eq_false_iff_ne.2 hc1
                clear hsc
                go_wp2_with fail
                refine (Drop_o sb 0 rfl hn2 hg2.out hP).mono ?_
                rintro r w6 ⟨rfl, s6⟩
                clear hP q0 q1
                have hr := Lib.hid (alive_get HA.out hn1)
                obtain ⟨b0, b1⟩ := (s6.blk 1 rfl).two
                go_wp2_with fail
                refine (Get_o s6 0 rfl hn2 hr.out).mono ?_
                rintro r w7 ⟨rfl, s7⟩
                go_wp2
                go_roundw
                case rel => exact ⟨k + 1, _, _, by omega, by omega, by go_num, HG.out, HA.out, s7⟩
                case measure => simp [intOf]; omega
              · have hc2 : (s == 0) = false := beq_eq_false_iff_ne.2 hs0
                clear hsc
                go_wp2_with fail
                refine (Drop_o sb 0 rfl hn2 hg2.out hP).mono ?_
                rintro r w6 ⟨rfl, s6⟩
                clear hP q0 q1
                have hr := Lib.hid (alive_get HA.out hn1)
                obtain ⟨b0, b1⟩ := (s6.blk 1 rfl).two
                go_wp2_with fail
                refine (Get_o s6 0 rfl hn2 hr.out).mono ?_
                rintro r w7 ⟨rfl, s7⟩
                go_wp2
                go_roundw
                case rel => exact ⟨k + 1, _, _, by omega, by omega, by go_num, HG.out, HA.out, s7⟩
                case measure => simp [intOf]; omega
          · have z3 : (z == 3) = false := beq_eq_false_iff_ne.2 h3
            have HG := Lib.hid (gens_put hg)
            have HA := Lib.hid hA
            have s6 := sb
            clear hg hA
            have hr := Lib.hid (alive_get HA.out hn1)
            obtain ⟨b0, b1⟩ := (s6.blk 1 rfl).two
            go_wp2_with fail
            refine (Get_o s6 0 rfl hn2 hr.out).mono ?_
            rintro r w7 ⟨rfl, s7⟩
            go_wp2
            go_roundw
            case rel => exact ⟨k + 1, _, _, by omega, by omega, by go_num, HG.out, HA.out, s7⟩
            case measure => simp [intOf]; omega
      · have hA0 := Lib.hid hA
        have hD : DropR n gen st 0 1 v 0 (fun j => if j = 0 then gen 0 + 1 else gen j) (fun j => if j = 0 then none else st j) := Or.inl ⟨0, by omega, rfl, hA.2.symm, hA.1, rfl, rfl, rfl⟩
        have hD' := Lib.hid hD
        have hg1 := Lib.hid (show ∀ i, i < n → 0 ≤ gen i ∧ gen i < 18446744073709551615 from fun i hi => by have := hg i hi; omega)
        have hgg := gens_drop hD hg
        have hg0 : 2 ≤ (fun j => if j = 0 then gen 0 + 1 else gen j) 0 := by simp; have := hA.2; omega
        have HGG := Lib.hid hgg
        have HG0 := Lib.hid hg0
        clear hD hgg hg0 hA hg
        obtain ⟨b0, b1⟩ := (sr.blk 1 rfl).two
        go_wp2_with fail
        refine (Drop_o sr 0 rfl hn2 hg1.out hD'.out).mono ?_
        rintro r w5 ⟨rfl, s5⟩
        have HGK := Lib.hid (show ∀ j, j < n → 1 ≤ (fun j => if j = 0 then gen 0 + 1 else gen j) j ∧ (fun j => if j = 0 then gen 0 + 1 else gen j) j ≤ (0 : Nat) + 122 from fun j hj => ⟨(HGG.out j hj).1, Int.le_trans (HGG.out j hj).2 (by omega)⟩)
        clear b0 b1
        go_wp2_with fail
        go_loopw [19] (fun i wr => ∃ k : Nat, ∃ (gen : Nat → Int) (st : Nat → Option Int), k ≤ n1 ∧ k ≤ 120 ∧ i = .int .i64 k ∧ (∀ j, j < n → 1 ≤ gen j ∧ gen j ≤ k + 122) ∧ 2 ≤ gen 0 ∧ St w None wr [TabR t n gen st, BlkR hb 32 #[.int .i64 0, .int .u64 1]]) (fun i _ => n1 - (intOf i).toNat)
        case atStart => exact ⟨0, _, _, by omega, by omega, rfl, HGK.out, HG0.out, s5⟩
        case round =>
          clear HGK HG0 HGG s5
          obtain ⟨k, gen, st, hk, hk2, rfl, hg, hA, sr⟩ := hrel
          by_cases hlt : k < n1
          · by_cases hlt2 : k < 120
            · obtain ⟨z, hz⟩ := f10 k hlt
              obtain ⟨x, hx⟩ := f11 k hlt
              obtain ⟨s, hs⟩ := f12 k hlt
              obtain ⟨c, hc⟩ := f13 k hlt
              obtain ⟨ib, off, rfl, e0, e1, e2, e3⟩ := rd1.at4 sr.below hlt
              rw [hz] at e0; rw [hx] at e1; rw [hs] at e2; rw [hc] at e3
              clear hz hx hs hc
              have hg2 := Lib.hid (show ∀ i, i < n → 0 ≤ gen i ∧ gen i < 18446744073709551615 from fun i hi => by have := hg i hi; omega)
              by_cases h0 : z = 0
              · subst h0
                obtain ⟨s', c', f', st', hP⟩ := putR_ex n gen st x
                have HG := Lib.hid (show ∀ j, j < n → 1 ≤ gen j ∧ gen j ≤ (k + 1 : Nat) + 122 from fun j hj => by have := hg j hj; omega)
                have HA := Lib.hid hA
                clear hg hA
                go_wp2_with fail
                refine (Put_o sr 0 rfl hn2 hP).mono ?_
                rintro r w6 ⟨rfl, s6⟩
                clear hP
                have hs0 := Lib.hid (gone_stale (n := n) (st := st') HA.out)
                obtain ⟨b0, b1⟩ := (s6.blk 1 rfl).two
                go_wp2_with fail
                refine (Get_o s6 0 rfl hn2 (Or.inr ⟨hs0.out, rfl, rfl⟩)).mono ?_
                rintro r w7 ⟨rfl, s7⟩
                clear b0 b1
                obtain ⟨b0, b1⟩ := (s7.blk 1 rfl).two
                go_wp2_with fail
                refine (Drop_o s7 0 rfl hn2 hg2.out (Or.inr ⟨hs0.out, rfl, rfl, rfl, rfl⟩)).mono ?_
                rintro r w8 ⟨rfl, s8⟩
                clear b0 b1
                obtain ⟨b0, b1⟩ := (s8.blk 1 rfl).two
                go_wp2_with fail
                refine (Set_o s8 0 rfl hn2 (Or.inr ⟨hs0.out, rfl, rfl⟩)).mono ?_
                rintro r w9 ⟨rfl, s9⟩
                go_wp2
                go_roundw
                case rel => exact ⟨k + 1, _, _, by omega, by omega, by go_num, HG.out, HA.out, s9⟩
                case measure => simp [intOf]; omega
              · have z0 : (z == 0) = false := beq_eq_false_iff_ne.2 h0
                by_cases h3 : z = 3
                · subst h3
                  obtain ⟨v', f', gen', st', hP⟩ := dropR_ex n gen st s c
                  have HG := Lib.hid (show ∀ j, j < n → 1 ≤ gen' j ∧ gen' j ≤ (k + 1 : Nat) + 122 from fun j hj => by have := hg j hj; rcases hP.gens j with h | h <;> omega)
                  have HA := Lib.hid (gone_drop hP hA)
                  have hg3 := hg2
                  clear hg2
                  have hg2 := Lib.hid (show ∀ i, i < n → 0 ≤ gen' i ∧ gen' i < 18446744073709551615 from fun i hi => by have := HG.out i hi; omega)
                  clear hg hA
                  go_wp2_with fail
                  refine (Drop_o sr 0 rfl hn2 hg3.out hP).mono ?_
                  rintro r w6 ⟨rfl, s6⟩
                  clear hP
                  have hs0 := Lib.hid (gone_stale (n := n) (st := st') HA.out)
                  obtain ⟨b0, b1⟩ := (s6.blk 1 rfl).two
                  go_wp2_with fail
                  refine (Get_o s6 0 rfl hn2 (Or.inr ⟨hs0.out, rfl, rfl⟩)).mono ?_
                  rintro r w7 ⟨rfl, s7⟩
                  clear b0 b1
                  obtain ⟨b0, b1⟩ := (s7.blk 1 rfl).two
                  go_wp2_with fail
                  refine (Drop_o s7 0 rfl hn2 hg2.out (Or.inr ⟨hs0.out, rfl, rfl, rfl, rfl⟩)).mono ?_
                  rintro r w8 ⟨rfl, s8⟩
                  clear b0 b1
                  obtain ⟨b0, b1⟩ := (s8.blk 1 rfl).two
                  go_wp2_with fail
                  refine (Set_o s8 0 rfl hn2 (Or.inr ⟨hs0.out, rfl, rfl⟩)).mono ?_
                  rintro r w9 ⟨rfl, s9⟩
                  go_wp2
                  go_roundw
                  case rel => exact ⟨k + 1, _, _, by omega, by omega, by go_num, HG.out, HA.out, s9⟩
                  case measure => simp [intOf]; omega
                · have z3 : (z == 3) = false := beq_eq_false_iff_ne.2 h3
                  have HG := Lib.hid (show ∀ j, j < n → 1 ≤ gen j ∧ gen j ≤ (k + 1 : Nat) + 122 from fun j hj => by have := hg j hj; omega)
                  have HA := Lib.hid hA
                  have s6 := sr
                  obtain ⟨st', rfl⟩ : ∃ st', st' = st := ⟨_, rfl⟩
                  clear hg hA
                  have hs0 := Lib.hid (gone_stale (n := n) (st := st') HA.out)
                  obtain ⟨b0, b1⟩ := (s6.blk 1 rfl).two
                  go_wp2_with fail
                  refine (Get_o s6 0 rfl hn2 (Or.inr ⟨hs0.out, rfl, rfl⟩)).mono ?_
                  rintro r w7 ⟨rfl, s7⟩
                  clear b0 b1
                  obtain ⟨b0, b1⟩ := (s7.blk 1 rfl).two
                  go_wp2_with fail
                  refine (Drop_o s7 0 rfl hn2 hg2.out (Or.inr ⟨hs0.out, rfl, rfl, rfl, rfl⟩)).mono ?_
                  rintro r w8 ⟨rfl, s8⟩
                  clear b0 b1
                  obtain ⟨b0, b1⟩ := (s8.blk 1 rfl).two
                  go_wp2_with fail
                  refine (Set_o s8 0 rfl hn2 (Or.inr ⟨hs0.out, rfl, rfl⟩)).mono ?_
                  rintro r w9 ⟨rfl, s9⟩
                  go_wp2
                  go_roundw
                  case rel => exact ⟨k + 1, _, _, by omega, by omega, by go_num, HG.out, HA.out, s9⟩
                  case measure => simp [intOf]; omega
            · go_wp2
              go_ret
              exact ⟨rfl, sr.below⟩
          · go_wp2
            go_ret
            exact ⟨rfl, sr.below⟩
    · have hA0 := Lib.hid hA
      have hD : DropR n gen st 0 1 v 0 (fun j => if j = 0 then gen 0 + 1 else gen j) (fun j => if j = 0 then none else st j) := Or.inl ⟨0, by omega, rfl, hA.2.symm, hA.1, rfl, rfl, rfl⟩
      have hD' := Lib.hid hD
      have hg1 := Lib.hid (show ∀ i, i < n → 0 ≤ gen i ∧ gen i < 18446744073709551615 from fun i hi => by have := hg i hi; omega)
      have hgg := gens_drop hD hg
      have hg0 : 2 ≤ (fun j => if j = 0 then gen 0 + 1 else gen j) 0 := by simp; have := hA.2; omega
      have HGG := Lib.hid hgg
      have HG0 := Lib.hid hg0
      clear hD hgg hg0 hA hg
      obtain ⟨b0, b1⟩ := (sr.blk 1 rfl).two
      go_wp2_with fail
      refine (Drop_o sr 0 rfl hn2 hg1.out hD'.out).mono ?_
      rintro r w5 ⟨rfl, s5⟩
      have HGK := Lib.hid (show ∀ j, j < n → 1 ≤ (fun j => if j = 0 then gen 0 + 1 else gen j) j ∧ (fun j => if j = 0 then gen 0 + 1 else gen j) j ≤ (0 : Nat) + 122 from fun j hj => ⟨(HGG.out j hj).1, Int.le_trans (HGG.out j hj).2 (by omega)⟩)
      clear b0 b1
      go_wp2_with fail
      go_loopw [19] (fun i wr => ∃ k : Nat, ∃ (gen : Nat → Int) (st : Nat → Option Int), k ≤ n1 ∧ k ≤ 120 ∧ i = .int .i64 k ∧ (∀ j, j < n → 1 ≤ gen j ∧ gen j ≤ k + 122) ∧ 2 ≤ gen 0 ∧ St w None wr [TabR t n gen st, BlkR hb 32 #[.int .i64 0, .int .u64 1]]) (fun i _ => n1 - (intOf i).toNat)
      case atStart => exact ⟨0, _, _, by omega, by omega, rfl, HGK.out, HG0.out, s5⟩
      case round =>
        clear HGK HG0 HGG s5
        obtain ⟨k, gen, st, hk, hk2, rfl, hg, hA, sr⟩ := hrel
        by_cases hlt : k < n1
        · by_cases hlt2 : k < 120
          · obtain ⟨z, hz⟩ := f10 k hlt
            obtain ⟨x, hx⟩ := f11 k hlt
            obtain ⟨s, hs⟩ := f12 k hlt
            obtain ⟨c, hc⟩ := f13 k hlt
            obtain ⟨ib, off, rfl, e0, e1, e2, e3⟩ := rd1.at4 sr.below hlt
            rw [hz] at e0; rw [hx] at e1; rw [hs] at e2; rw [hc] at e3
            clear hz hx hs hc
            have hg2 := Lib.hid (show ∀ i, i < n → 0 ≤ gen i ∧ gen i < 18446744073709551615 from fun i hi => by have := hg i hi; omega)
            by_cases h0 : z = 0
            · subst h0
              obtain ⟨s', c', f', st', hP⟩ := putR_ex n gen st x
              have HG := Lib.hid (show ∀ j, j < n → 1 ≤ gen j ∧ gen j ≤ (k + 1 : Nat) + 122 from fun j hj => by have := hg j hj; omega)
              have HA := Lib.hid hA
              clear hg hA
              go_wp2_with fail
              refine (Put_o sr 0 rfl hn2 hP).mono ?_
              rintro r w6 ⟨rfl, s6⟩
              clear hP
              have hs0 := Lib.hid (gone_stale (n := n) (st := st') HA.out)
              obtain ⟨b0, b1⟩ := (s6.blk 1 rfl).two
              go_wp2_with fail
              refine (Get_o s6 0 rfl hn2 (Or.inr ⟨hs0.out, rfl, rfl⟩)).mono ?_
              rintro r w7 ⟨rfl, s7⟩
              clear b0 b1
              obtain ⟨b0, b1⟩ := (s7.blk 1 rfl).two
              go_wp2_with fail
              refine (Drop_o s7 0 rfl hn2 hg2.out (Or.inr ⟨hs0.out, rfl, rfl, rfl, rfl⟩)).mono ?_
              rintro r w8 ⟨rfl, s8⟩
              clear b0 b1
              obtain ⟨b0, b1⟩ := (s8.blk 1 rfl).two
              go_wp2_with fail
              refine (Set_o s8 0 rfl hn2 (Or.inr ⟨hs0.out, rfl, rfl⟩)).mono ?_
              rintro r w9 ⟨rfl, s9⟩
              go_wp2
              go_roundw
              case rel => exact ⟨k + 1, _, _, by omega, by omega, by go_num, HG.out, HA.out, s9⟩
              case measure => simp [intOf]; omega
            · have z0 : (z == 0) = false := beq_eq_false_iff_ne.2 h0
              by_cases h3 : z = 3
              · subst h3
                obtain ⟨v', f', gen', st', hP⟩ := dropR_ex n gen st s c
                have HG := Lib.hid (show ∀ j, j < n → 1 ≤ gen' j ∧ gen' j ≤ (k + 1 : Nat) + 122 from fun j hj => by have := hg j hj; rcases hP.gens j with h | h <;> omega)
                have HA := Lib.hid (gone_drop hP hA)
                have hg3 := hg2
                clear hg2
                have hg2 := Lib.hid (show ∀ i, i < n → 0 ≤ gen' i ∧ gen' i < 18446744073709551615 from fun i hi => by have := HG.out i hi; omega)
                clear hg hA
                go_wp2_with fail
                refine (Drop_o sr 0 rfl hn2 hg3.out hP).mono ?_
                rintro r w6 ⟨rfl, s6⟩
                clear hP
                have hs0 := Lib.hid (gone_stale (n := n) (st := st') HA.out)
                obtain ⟨b0, b1⟩ := (s6.blk 1 rfl).two
                go_wp2_with fail
                refine (Get_o s6 0 rfl hn2 (Or.inr ⟨hs0.out, rfl, rfl⟩)).mono ?_
                rintro r w7 ⟨rfl, s7⟩
                clear b0 b1
                obtain ⟨b0, b1⟩ := (s7.blk 1 rfl).two
                go_wp2_with fail
                refine (Drop_o s7 0 rfl hn2 hg2.out (Or.inr ⟨hs0.out, rfl, rfl, rfl, rfl⟩)).mono ?_
                rintro r w8 ⟨rfl, s8⟩
                clear b0 b1
                obtain ⟨b0, b1⟩ := (s8.blk 1 rfl).two
                go_wp2_with fail
                refine (Set_o s8 0 rfl hn2 (Or.inr ⟨hs0.out, rfl, rfl⟩)).mono ?_
                rintro r w9 ⟨rfl, s9⟩
                go_wp2
                go_roundw
                case rel => exact ⟨k + 1, _, _, by omega, by omega, by go_num, HG.out, HA.out, s9⟩
                case measure => simp [intOf]; omega
              · have z3 : (z == 3) = false := beq_eq_false_iff_ne.2 h3
                have HG := Lib.hid (show ∀ j, j < n → 1 ≤ gen j ∧ gen j ≤ (k + 1 : Nat) + 122 from fun j hj => by have := hg j hj; omega)
                have HA := Lib.hid hA
                have s6 := sr
                obtain ⟨st', rfl⟩ : ∃ st', st' = st := ⟨_, rfl⟩
                clear hg hA
                have hs0 := Lib.hid (gone_stale (n := n) (st := st') HA.out)
                obtain ⟨b0, b1⟩ := (s6.blk 1 rfl).two
                go_wp2_with fail
                refine (Get_o s6 0 rfl hn2 (Or.inr ⟨hs0.out, rfl, rfl⟩)).mono ?_
                rintro r w7 ⟨rfl, s7⟩
                clear b0 b1
                obtain ⟨b0, b1⟩ := (s7.blk 1 rfl).two
                go_wp2_with fail
                refine (Drop_o s7 0 rfl hn2 hg2.out (Or.inr ⟨hs0.out, rfl, rfl, rfl, rfl⟩)).mono ?_
                rintro r w8 ⟨rfl, s8⟩
                clear b0 b1
                obtain ⟨b0, b1⟩ := (s8.blk 1 rfl).two
                go_wp2_with fail
                refine (Set_o s8 0 rfl hn2 (Or.inr ⟨hs0.out, rfl, rfl⟩)).mono ?_
                rintro r w9 ⟨rfl, s9⟩
                go_wp2
                go_roundw
                case rel => exact ⟨k + 1, _, _, by omega, by omega, by go_num, HG.out, HA.out, s9⟩
                case measure => simp [intOf]; omega
          · go_wp2
            go_ret
            exact ⟨rfl, sr.below⟩
        · go_wp2
          go_ret
          exact ⟨rfl, sr.below⟩

set_option maxRecDepth 100000 in
theorem lifted (os : Os) (started : os.Started) (H : Type) (enc : TypeId × Value → H) :
    ReturnsInHanded {} Try.checked os 4 .any (Rows.tableStaleSpec.pre6 enc Try.prog Try.f4 Rows.tableStaleRow.domain false) (Rows.tableStaleSpec.post enc Try.prog Try.f4 false true false false) := by
  refine law_lifted (C := Try.checked) (tb := 4) own started (by kernel_rfl) Try.func4
    (ChangeSpec.witness6 (enc := enc) (C := Try.checked) false ⟨#[], #[.int .u8 0, .int .i64 0, .agg #[.slice none 0 0, .slice none 0 0]], []⟩ 8 (by kernel_rfl) (by kernel_rfl) (by kernel_rfl) (by kernel_rfl)) laid (by kernel_rfl) (by kernel_rfl) Try.underlying4 rfl ?_
  intro W base args ds ps hval0 hA0 hlt
  have hval : ∀ (j : Nat) t v, Try.f4.params[j]? = some t → args[j]? = some v → Value.okWide Try.prog W .any base t v := hval0
  have hA : DataW.TrodAll enc Try.prog W 0 (fun _ => true) true Try.f4.params.toList args.toList ds ps := hA0
  clear hA0 hval0
  rw [Try.params4] at hA hval
  obtain ⟨v0, vs0, d0, ds0, p0, q0, hargs, rfl, rfl, h0, r0⟩ := trodAll_cons hA
  obtain ⟨v1, vs1, d1, ds1, p1, q1, rfl, rfl, rfl, h1, r1⟩ := trodAll_cons r0
  obtain ⟨v2, vs2, d2, ds2, p2, q2, rfl, rfl, rfl, h2, r2⟩ := trodAll_cons r1
  obtain ⟨rfl, rfl, rfl⟩ := trodAll_nil r2
  obtain rfl : args = #[v0, v1, v2] := by cases args; simp_all
  obtain ⟨a0, rfl, rfl, rfl, w0⟩ := open_int Try.underlying5 (hval 0 5 v0 rfl rfl) h0
  obtain ⟨a1, rfl, rfl, rfl, w1⟩ := open_int Try.underlying3 (hval 1 3 v1 rfl rfl) h1
  obtain ⟨cs2, rfl, sz2, lf2⟩ := open_agg_spots (d := 20) (l := [(0, 22), (1, 22)]) (Or.inr ⟨_, _, Try.underlying45⟩) (by kernel_rfl) (hval 2 45 v2 rfl rfl) h2
  obtain ⟨c2_0, c2_1, rfl⟩ := size2 (sz2.trans (by kernel_rfl))
  obtain ⟨A2_0, n2_0, cap2_0, V2_0, rfl, le2_0, mx2_0, rd2_0, lf2_0⟩ := leaf_slice (m := 4) (d := 20) (l := [(0, 3), (1, 3), (2, 3), (3, 30)]) Try.underlying22 (by kernel_rfl) (by decide) (by kernel_rfl) (lf2 0 22 (by simp) _ rfl)
  have f2_0_0 := fun j hj => leaf_int Try.underlying3 (lf2_0 0 3 (by simp) j hj)
  have f2_0_1 := fun j hj => leaf_int Try.underlying3 (lf2_0 1 3 (by simp) j hj)
  have f2_0_2 := fun j hj => leaf_int Try.underlying3 (lf2_0 2 3 (by simp) j hj)
  have f2_0_3 := fun j hj => leaf_int Try.underlying30 (lf2_0 3 30 (by simp) j hj)
  obtain ⟨A2_1, n2_1, cap2_1, V2_1, rfl, le2_1, mx2_1, rd2_1, lf2_1⟩ := leaf_slice (m := 4) (d := 20) (l := [(0, 3), (1, 3), (2, 3), (3, 30)]) Try.underlying22 (by kernel_rfl) (by decide) (by kernel_rfl) (lf2 1 22 (by simp) _ rfl)
  have f2_1_0 := fun j hj => leaf_int Try.underlying3 (lf2_1 0 3 (by simp) j hj)
  have f2_1_1 := fun j hj => leaf_int Try.underlying3 (lf2_1 1 3 (by simp) j hj)
  have f2_1_2 := fun j hj => leaf_int Try.underlying3 (lf2_1 2 3 (by simp) j hj)
  have f2_1_3 := fun j hj => leaf_int Try.underlying30 (lf2_1 3 30 (by simp) j hj)
  refine ⟨⟨rfl, rfl, rfl⟩, ?_⟩
  exact walk a0 a1 A2_0 n2_0 cap2_0 V2_0 A2_1 n2_1 cap2_1 V2_1 W (bounds_u8 w0) (by omega) (by omega) rd2_0 (ints f2_0_0) (ints f2_0_1) (ints f2_0_2) (ints f2_0_3) rd2_1 (ints f2_1_0) (ints f2_1_1) (ints f2_1_2) (ints f2_1_3)

theorem over : Rows.tableStaleRow.holds Try.pinned (OpenSpec.ofChange Rows.tableStaleSpec) :=
  OpenClaim.holds_of_wide 4 Try.f4 rfl rfl rfl rfl rfl rfl rfl ⟨rfl, rfl, rfl, rfl, rfl⟩ rfl rfl rfl rfl rfl (by kernel_rfl) Try.func4 (by kernel_rfl)
    (of_decide_eq_true (by kernel_rfl)) (by unfold Func.isWrapper; first | (rw [if_pos (by decide +kernel)]; kernel_rfl) | (rw [if_neg (by decide +kernel)]; exact ⟨rfl, rfl⟩))
    (fun os started H enc _ => lifted os started H enc)
theorem proved : Rows.TableStaleSaid := over
#print axioms proved
end Go.Proofs.Ytlpmnpmgehjmaaa.tableStale
