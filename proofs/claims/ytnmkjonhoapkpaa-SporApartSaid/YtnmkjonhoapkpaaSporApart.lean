/-
  For every two servers and every list of steps SporApart answers true, and changes nothing: two servers' budgets don't touch one another; a budget's units that are left are never above it, nor below nothing. No condition.
-/
import Derived.Test.YtnmkjonhoapkpaaRows
import Derived.Test.YtnmkjonhoapkpaaFr
import Derived.Test.YtnmkjonhoapkpaaSporL
import Derived.Test.YtnmkjonhoapkpaaFlat
import Derived.LoopTactic
namespace Go.Proofs.Ytnmkjonhoapkpaa.sporApart
open Go.ChangeShapes Go.WideShapes Go.ChangeAt Go.RowKit
set_option linter.unusedVariables false
theorem own : ownKnob Try.prog.godebug = none := by kernel_rfl
theorem laid : laidOutB Try.prog = true := by kernel_rfl
set_option maxRecDepth 100000
set_option maxHeartbeats 4000000
theorem rmay_yes (B P : Int) (w : World) (h : SOK B P) :
    Calls Try.prog 9 #[.agg #[.int .i64 B, .int .u64 P]] w fun e w' => e = .returned (.bool true) ∧ Below w.heap.size w w' := by
  unfold SOK at h
  have d1 : decide (0 < B) = true := decide_eq_true (by omega)
  have d2 : decide (B ≤ 200) = true := decide_eq_true h.2.1
  have d3 : decide (B ≤ P) = true := decide_eq_true h.2.2.1
  have d4 : decide (P ≤ 1099511627776) = true := decide_eq_true h.2.2.2
  have hw : IntKind.u64.wrap B = B := IntWalk.u64_in _ ⟨by omega, by omega⟩
  go_enter Try.func9, Try.ntmps9
  go_wp2
  go_ret
  exact ⟨rfl, (Below.refl _ _).alloc (Nat.le_refl _) _⟩
theorem rmay_no (B P : Int) (w : World) (h : ¬ SOK B P) (h2 : P ≤ 18446744073709551615) :
    Calls Try.prog 9 #[.agg #[.int .i64 B, .int .u64 P]] w fun e w' => e = .returned (.bool false) ∧ Below w.heap.size w w' := by
  unfold SOK at h
  by_cases h1 : 0 < B
  · have d1 : decide (0 < B) = true := decide_eq_true h1
    by_cases h2 : B ≤ 200
    · have d2 : decide (B ≤ 200) = true := decide_eq_true h2
      have hw : IntKind.u64.wrap B = B := IntWalk.u64_in _ ⟨by omega, by omega⟩
      by_cases h3 : P ≤ 1099511627776
      · have d3 : decide (P ≤ 1099511627776) = true := decide_eq_true h3
        have d4 : decide (B ≤ P) = false := decide_eq_false (by omega)
        clear h
        go_enter Try.func9, Try.ntmps9
        go_wp2
        go_ret
        exact ⟨rfl, (Below.refl _ _).alloc (Nat.le_refl _) _⟩
      · have d3 : decide (P ≤ 1099511627776) = false := decide_eq_false h3
        clear h
        go_enter Try.func9, Try.ntmps9
        go_wp2
        go_ret
        exact ⟨rfl, (Below.refl _ _).alloc (Nat.le_refl _) _⟩
    · have d2 : decide (B ≤ 200) = false := decide_eq_false h2
      clear h
      go_enter Try.func9, Try.ntmps9
      go_wp2
      go_ret
      exact ⟨rfl, (Below.refl _ _).alloc (Nat.le_refl _) _⟩
  · have d1 : decide (0 < B) = false := decide_eq_false h1
    clear h
    go_enter Try.func9, Try.ntmps9
    go_wp2
    go_ret
    exact ⟨rfl, (Below.refl _ _).alloc (Nat.le_refl _) _⟩
def useR (B now : Int) (xs : List Int) : Bool := decide (((notBack now xs).length : Int) < B)
def useL (B P now : Int) (xs : List Int) : List Int := if ((notBack now xs).length : Int) < B then notBack now xs ++ [now + P] else notBack now xs
theorem useL_le {B P now : Int} {xs : List Int} (h : (xs.length : Int) ≤ B) : ((useL B P now xs).length : Int) ≤ B := by
  have := notBack_le now xs
  unfold useL; split
  · simp; omega
  · omega
theorem use_any (b base : Nat) (B P N now : Int) (v : Value) (xs : List Int) (w : World) (hb : Sb w b B P N v) (hx : Tm w base v xs) (hB : 0 ≤ B ∧ B ≤ 200) (hn : xs.length ≤ B) (h1 : N ≤ now) (h2 : now < 4611686018427387904) (h0 : 0 ≤ now) (hP : 0 ≤ P ∧ P ≤ 1099511627776) (hbase : base ≤ w.heap.size) :
    Calls Try.prog 10 #[.pointer (some ⟨b, 0, none⟩), .int .u64 now] w fun e w' => e = .returned (.tuple #[.bool (useR B now xs), .int .i64 0]) ∧ Used w w' b base B P now v (useL B P now xs) := by
  have hle := notBack_le now xs
  unfold useR useL
  by_cases hl : ((notBack now xs).length : Int) < B
  · rw [decide_eq_true hl, if_pos hl]
    exact Use_yes b base B P N now v xs w hb hx hB (by omega) h1 h2 h0 hP hl hbase
  · rw [decide_eq_false hl, if_neg hl]
    refine (Use_no b base B P N now v xs w hb hx hB (by omega) h1 h2 (by omega)).mono ?_
    rintro e w' ⟨he, v', hb', hx', hv, ho⟩
    exact ⟨he, v', hb', hx', Or.inl hv, Two.of_only ho _⟩
theorem left_u (b base : Nat) (B P N now : Int) (v : Value) (xs : List Int) (w : World) (hb : Sb w b B P N v) (hx : Tm w base v xs) (hB : 0 ≤ B ∧ B ≤ 200) (hn : xs.length ≤ B) (h1 : N ≤ now) (h2 : now < 4611686018427387904) :
    ∃ u, 0 ≤ u ∧ u ≤ B ∧ u = B - ((notBack now xs).length : Int) ∧ Calls Try.prog 14 #[.pointer (some ⟨b, 0, none⟩), .int .u64 now] w fun e w' => e = .returned (.tuple #[.int .i64 u, .int .i64 0]) ∧ Bud w w' b base B P now v (notBack now xs) := by
  have hle := notBack_le now xs
  exact ⟨_, by omega, by omega, rfl, Left_ok b base B P N now v xs w hb hx hB (by omega) h1 h2⟩
/-- A budget, its list, and what it may hold at most. -/
structure Own (w : World) (b base : Nat) (B P now : Int) (v : Value) (xs : List Int) : Prop where
  N : ∃ N, N ≤ now ∧ Sb w b B P N v
  tm : Tm w base v xs
  len : (xs.length : Int) ≤ B
/-- Two lists that lie in blocks of their own. -/
def Ap (v u : Value) : Prop := ∀ g, v.ownBlock = some g → u.ownBlock ≠ some g
theorem Ap.symm {v u : Value} (h : Ap v u) : Ap u v := fun g hg he => h g he hg
theorem Own.two {w w' : World} {b c base : Nat} {B P now B' P' now' : Int} {v u : Value} {xs ys : List Int} {o : Option Nat} (h : Own w b base B P now v xs) (k : Own w c base B' P' now' u ys) (hbc : b ≠ c) (ho : Two c u.ownBlock w w') (ha : Ap v u) : Own w' b base B P now v xs := by
  obtain ⟨N, hN, hb⟩ := h.N
  obtain ⟨M, hM, hc⟩ := k.N
  refine ⟨⟨N, hN, ho.blk hb hbc (fun e => Lst.ne_ k.tm hb (by decide) e.symm)⟩, Lst.keep h.tm fun g hg => ho.block g (Lst.lt h.tm hg) (fun e => Lst.ne_ h.tm hc (by decide) (hg.trans (congrArg some e))) (fun e => ha g hg e.symm), h.len⟩
theorem Own.only {w w' : World} {b c base : Nat} {B P now B' P' now' : Int} {v u : Value} {xs ys : List Int} (h : Own w b base B P now v xs) (k : Own w c base B' P' now' u ys) (hbc : b ≠ c) (ho : Only c w w') (ha : Ap v u) : Own w' b base B P now v xs :=
  Own.two (o := none) h k hbc (Two.of_only ho _) ha
theorem Own.later {w : World} {b base : Nat} {B P now now' : Int} {v : Value} {xs : List Int} (h : Own w b base B P now v xs) (hn : now ≤ now') : Own w b base B P now' v xs :=
  ⟨by obtain ⟨N, hN, hb⟩ := h.N; exact ⟨N, by omega, hb⟩, h.tm, h.len⟩
theorem ap_new {w : World} {base : Nat} {v v' u : Value} {ys : List Int} (h : Ap u v) (hu : Tm w base u ys) (hv : v'.ownBlock = v.ownBlock ∨ ∃ g, v'.ownBlock = some g ∧ w.heap.size ≤ g) : Ap u v' := by
  intro g hg he
  rcases hv with hv | ⟨k, hk, hs⟩
  · exact h g hg (by rw [← hv, he])
  · have := Lst.lt hu hg
    rw [hk] at he; injection he with he; omega
theorem box_ne {w : World} {base g : Nat} {v : Value} {xs : List Int} {cs : Array Value} (h : Tm w base v xs) (hb : Blk w g 24 cs) : some g ≠ v.ownBlock := fun e => Lst.ne_ h hb (by decide) e.symm
/-- The call of Use on one of them. -/
theorem own_use {b base : Nat} {B P now : Int} {v : Value} {xs : List Int} {w : World} (h : Own w b base B P now v xs) (hB : 0 ≤ B ∧ B ≤ 200) (h2 : now < 4611686018427387904) (h0 : 0 ≤ now) (hP : 0 ≤ P ∧ P ≤ 1099511627776) (hbase : base ≤ w.heap.size) :
    Calls Try.prog 10 #[.pointer (some ⟨b, 0, none⟩), .int .u64 now] w fun e w' => e = .returned (.tuple #[.bool (useR B now xs), .int .i64 0]) ∧
      ∃ v', Own w' b base B P now v' (useL B P now xs) ∧ (v'.ownBlock = v.ownBlock ∨ ∃ g, v'.ownBlock = some g ∧ w.heap.size ≤ g) ∧ Two b v.ownBlock w w' := by
  obtain ⟨N, hN, hb⟩ := h.N
  refine (use_any b base B P N now v xs w hb h.tm hB h.len hN h2 h0 hP hbase).mono ?_
  rintro e w' ⟨he, v', hb', hx', hv, ho⟩
  exact ⟨he, v', ⟨⟨now, by omega, hb'⟩, hx', useL_le h.len⟩, hv, ho⟩
theorem own_left {b base : Nat} {B P now u : Int} {v : Value} {xs ys : List Int} {w : World} (h : Own w b base B P now v xs) (hB : 0 ≤ B ∧ B ≤ 200) (h2 : now < 4611686018427387904) (hy : notBack now xs = ys) (hu : B - (ys.length : Int) = u) :
    Calls Try.prog 14 #[.pointer (some ⟨b, 0, none⟩), .int .u64 now] w fun e w' => e = .returned (.tuple #[.int .i64 u, .int .i64 0]) ∧
      ∃ v', Own w' b base B P now v' ys ∧ v'.ownBlock = v.ownBlock ∧ Only b w w' := by
  subst hy; subst hu
  obtain ⟨N, hN, hb⟩ := h.N
  have hle := notBack_le now xs
  have hl := h.len
  refine (Left_ok b base B P N now v xs w hb h.tm hB (by omega) hN h2).mono ?_
  rintro e w' ⟨he, v', hb', hx', hv, ho⟩
  exact ⟨he, v', ⟨⟨now, by omega, hb'⟩, hx', by omega⟩, hv, ho⟩
theorem ap_same {v v' u : Value} (h : Ap u v) (hv : v'.ownBlock = v.ownBlock) : Ap u v' := fun g hg => by rw [hv]; exact h g hg
theorem ap_none (v : Value) : Ap (.slice none 0 0) v := fun g hg => by simp [Value.ownBlock] at hg
theorem walk (B P B' P' : Int) (A : Option Addr) (n cap : Nat) (V : Nat → Nat → Value) (w : World) (bP : 0 ≤ P ∧ P ≤ 18446744073709551615) (bP' : 0 ≤ P' ∧ P' ≤ 18446744073709551615) (hm : n ≤ maxLen) (rd : RdM w A n 2 V) (hV0 : ∀ j, j < n → ∃ z, V j 0 = .bool z) (hV1 : ∀ j, j < n → ∃ z, V j 1 = .int .u64 z ∧ 0 ≤ z ∧ z ≤ 18446744073709551615) :
    Calls Try.prog 6 #[.agg #[.int .i64 B, .int .u64 P], .agg #[.int .i64 B', .int .u64 P'], .slice A n cap] w fun r w' => r = .returned (.bool true) ∧ Below w.heap.size w w' := by
  unfold maxLen at hm
  by_cases h : SOK B P
  · by_cases h' : SOK B' P'
    · have hB : 1 ≤ B ∧ B ≤ 200 := ⟨h.1, h.2.1⟩
      have hPm : B ≤ P ∧ P ≤ 1099511627776 := h.2.2
      have hB' : 1 ≤ B' ∧ B' ≤ 200 := ⟨h'.1, h'.2.1⟩
      have hPm' : B' ≤ P' ∧ P' ≤ 1099511627776 := h'.2.2
      go_enter Try.func6, Try.ntmps6
      go_wp2_with fail
      refine (awake_any _).mono ?_
      rintro r w1 ⟨rfl, hw1⟩
      obtain ⟨hx1, hy1, hs1⟩ := boxed2 hw1
      obtain ⟨c1, e1⟩ := hx1.two
      obtain ⟨p1, q1⟩ := hy1.two
      go_wp2_with fail
      refine (rmay_yes B P _ h).mono ?_
      rintro r w2 ⟨rfl, hw2⟩
      have hx2 := hx1.stay hw2
      have hy2 := hy1.stay hw2
      obtain ⟨c2, e2⟩ := hx2.two
      obtain ⟨p2, q2⟩ := hy2.two
      have hs2 := below_then hs1 hw2
      clear c1 e1 p1 q1
      go_wp2_with fail
      refine (rmay_yes B' P' _ h').mono ?_
      rintro r w3 ⟨rfl, hw3⟩
      have hx3 := hx2.stay hw3
      have hy3 := hy2.stay hw3
      obtain ⟨c3, e3⟩ := hx3.two
      obtain ⟨p3, q3⟩ := hy3.two
      have hs3 := below_then hs2 hw3
      clear c2 e2 p2 q2
      go_wp2_with fail
      refine (new_ok B P _ h).mono ?_
      rintro r w4 ⟨a, haA, rfl, ha4, hw4⟩
      have hx4 := hx3.stay hw4
      have hy4 := hy3.stay hw4
      obtain ⟨c4, e4⟩ := hx4.two
      obtain ⟨p4, q4⟩ := hy4.two
      have hs4 := below_then hs3 hw4
      clear c3 e3 p3 q3
      go_wp2_with fail
      refine (new_ok B' P' _ h').mono ?_
      rintro r w5 ⟨b, hbB, rfl, hb5, hw5⟩
      have ha5 := Blk.stay ha4 hw5
      have hx5 := hx4.stay hw5
      have hy5 := hy4.stay hw5
      obtain ⟨c5, e5⟩ := hx5.two
      obtain ⟨p5, q5⟩ := hy5.two
      have hs5 := below_then hs4 hw5
      clear c4 e4 p4 q4
      go_wp2_with fail
      refine (new_ok B' P' _ h').mono ?_
      rintro r w6 ⟨c, hcC, rfl, hc6, hw6⟩
      have ha6 := Blk.stay ha5 hw6
      have hb6 := Blk.stay hb5 hw6
      have hx6 := hx5.stay hw6
      have hy6 := hy5.stay hw6
      have hs6 := below_then hs5 hw6
      have hab : a ≠ b := by have := Blk.lt ha4; omega
      have hbc : b ≠ c := by have := Blk.lt hb5; omega
      have hac : a ≠ c := by have := Blk.lt ha5; omega
      have hxa : w.heap.size ≠ a ∧ w.heap.size + 1 ≠ a := by have := hx3.lt; have := hy3.lt; omega
      have hxb : w.heap.size ≠ b ∧ w.heap.size + 1 ≠ b := by have := hx4.lt; have := hy4.lt; omega
      have hxc : w.heap.size ≠ c ∧ w.heap.size + 1 ≠ c := by have := hx5.lt; have := hy5.lt; omega
      have hwa : w.heap.size ≤ a := by have := hs3.size; omega
      have hwb : w.heap.size ≤ b := by have := hs4.size; omega
      have hwc : w.heap.size ≤ c := by have := hs5.size; omega
      have A0 : Own w6 a w.heap.size B P 0 (.slice none 0 0) [] := ⟨⟨0, by omega, ha6⟩, Lst.nil _ _ _, by simp; omega⟩
      have B0 : Own w6 b w.heap.size B' P' 0 (.slice none 0 0) [] := ⟨⟨0, by omega, hb6⟩, Lst.nil _ _ _, by simp; omega⟩
      have C0 : Own w6 c w.heap.size B' P' 0 (.slice none 0 0) [] := ⟨⟨0, by omega, hc6⟩, Lst.nil _ _ _, by simp; omega⟩
      clear c5 e5 p5 q5 ha4 ha5 ha6 hb5 hb6 hc6 hx1 hx2 hx3 hx4 hx5 hy1 hy2 hy3 hy4 hy5 hw1 hw2 hw3 hw4 hw5 hw6 hs1 hs2 hs3 hs4 hs5 haA hbB hcC
      go_wp2_with fail
      go_loopw [13, 14] (fun nw i wr => ∃ k : Nat, ∃ now : Int, ∃ va vb vc : Value, ∃ xs ys : List Int, k ≤ n ∧ k ≤ 150 ∧ i = .int .i64 k ∧ nw = .int .u64 now ∧ 0 ≤ now ∧ now ≤ 1000 * k ∧
        Own wr a w.heap.size B P now va xs ∧ Own wr b w.heap.size B' P' now vb ys ∧ Own wr c w.heap.size B' P' now vc ys ∧ Ap va vb ∧ Ap va vc ∧ Ap vb vc ∧
        Blk wr w.heap.size 24 #[.int .i64 B, .int .u64 P] ∧ Blk wr (w.heap.size + 1) 24 #[.int .i64 B', .int .u64 P'] ∧ Below w.heap.size w wr) (fun _ i _ => n - (intOf i).toNat)
      case atStart => exact ⟨0, 0, _, _, _, [], [], by omega, by omega, rfl, rfl, by omega, by omega, A0, B0, C0, ap_none _, ap_none _, ap_none _, hx6, hy6, hs6⟩
      case round =>
        obtain ⟨k, now, va, vb, vc, xs, ys, hk, hk2, rfl, rfl, n0, n1, hA, hB1, hC, hAB, hAC, hBC, hx, hy, hs⟩ := hrel
        by_cases hlt : k < n
        · by_cases hlt2 : k < 150
          · obtain ⟨sb, off, rfl, hsb, hcell⟩ := rd (by omega)
            obtain ⟨z, hz, bz⟩ := hV1 k hlt
            obtain ⟨y, hy0⟩ := hV0 k hlt
            have g0 : 0 ≤ z % 1000 := Int.emod_nonneg _ (by omega)
            have g1 : z % 1000 < 1000 := Int.emod_lt_of_pos _ (by omega)
            have r1 : wr.cell? ⟨sb, off + k * 2 + 1, none⟩ = some (.int .u64 z) := by
              rw [← hz, Nat.add_assoc]; exact (hs.cell (p := ⟨sb, off + (k * 2 + 1), none⟩) hsb).trans (hcell k hlt 1 (by omega))
            have r0 : wr.cell? ⟨sb, off + k * 2, none⟩ = some (.bool y) := by
              rw [← hy0]; exact (hs.cell (p := ⟨sb, off + (k * 2 + 0), none⟩) hsb).trans (hcell k hlt 0 (by omega))
            clear hcell
            obtain ⟨t, ht⟩ : ∃ t, now + z % 1000 = t := ⟨_, rfl⟩
            have hA1 := hA.later (show now ≤ t by omega)
            have hB2 := hB1.later (show now ≤ t by omega)
            have hC1 := hC.later (show now ≤ t by omega)
            have hl1 := hA1.len
            have hl2 := hB2.len
            have m1 := useL_le (P := P) (now := t) hl1
            have m2 := useL_le (P := P') (now := t) hl2
            clear hA hB1 hC
            cases y
            case false =>
              obtain ⟨rr, hrr⟩ : ∃ r, useR B' t ys = r := ⟨_, rfl⟩
              have hyl := hB2.len
              have hd := (rfl : useL B' P' t ys = useL B' P' t ys)
              have US := Lib.hid (own_use hB2 (by omega) (show t < 4611686018427387904 by omega) (by omega) (by omega) hs.size)
              have UC := Lib.hid fun (wz : World) (v : Value) (h : Own wz c w.heap.size B' P' t v ys) (hb : w.heap.size ≤ wz.heap.size) => own_use h (by omega) (show t < 4611686018427387904 by omega) (by omega) (by omega) hb
              rw [hrr] at US UC
              clear hrr hd
              generalize useL B' P' t ys = ys2 at *
              go_wp2_with fail
              refine US.out.mono ?_
              rintro r w2 ⟨rfl, vb2, hB3, hvb2, ho2⟩
              have hA2 := hA1.two (o := none) hB2 hab ho2 hAB
              have hC2 := hC1.two (o := none) hB2 (Ne.symm hbc) ho2 hBC.symm
              have hAB2 := ap_new hAB hA1.tm hvb2
              have hBC2 := (ap_new hBC.symm hC1.tm hvb2).symm
              have hbx2 := ho2.blk hx hxb.1 (box_ne hB2.tm hx)
              have hby2 := ho2.blk hy hxb.2 (box_ne hB2.tm hy)
              have hs2 := two_below hs ho2 hwb (fun k hk => Tm.own hB2.tm hk) (Nat.le_refl _)
              go_wp2_with fail
              refine (UC.out _ _ hC2 hs2.size).mono ?_
              rintro r w3 ⟨rfl, vc3, hC3, hvc3, ho3⟩
              have hA3 := hA2.two (o := none) hC2 hac ho3 hAC
              have hB4 := hB3.two (o := none) hC2 hbc ho3 hBC2
              have hAC3 := ap_new hAC hA2.tm hvc3
              have hBC3 := ap_new hBC2 hB3.tm hvc3
              have hbx3 := ho3.blk hbx2 hxc.1 (box_ne hC2.tm hbx2)
              have hby3 := ho3.blk hby2 hxc.2 (box_ne hC2.tm hby2)
              have hs3 := two_below hs2 ho3 hwc (fun k hk => Tm.own hC2.tm hk) (Nat.le_refl _)
              obtain ⟨xs3, hx3⟩ : ∃ l, notBack t xs = l := ⟨_, rfl⟩
              obtain ⟨ys3, hy3⟩ : ∃ l, notBack t ys2 = l := ⟨_, rfl⟩
              have l3 : (xs3.length : Int) ≤ B := by rw [← hx3]; have := notBack_le t xs; omega
              have l4 : (ys3.length : Int) ≤ B' := by rw [← hy3]; have := notBack_le t ys2; omega
              obtain ⟨u1, hu1⟩ : ∃ u, B - (xs3.length : Int) = u := ⟨_, rfl⟩
              obtain ⟨u2, hu2⟩ : ∃ u, B' - (ys3.length : Int) = u := ⟨_, rfl⟩
              have b1 : 0 ≤ u1 ∧ u1 ≤ B := by omega
              have b2 : 0 ≤ u2 ∧ u2 ≤ B' := by omega
              have HX := Lib.hid hx3
              have HY := Lib.hid hy3
              have H1 := Lib.hid hu1
              have H2 := Lib.hid hu2
              clear hx3 hy3 hu1 hu2 l3 l4
              go_wp2_with fail
              refine (own_left hA3 (by omega) (by omega) HX.out H1.out).mono ?_
              rintro r w5 ⟨rfl, va5, hA5, hva5, ho5⟩
              have hB5 := hB4.only hA3 (Ne.symm hab) ho5 (Ap.symm hAB2)
              have hC5 := hC3.only hA3 (Ne.symm hac) ho5 (Ap.symm hAC3)
              have hAB5 := (ap_same (Ap.symm hAB2) hva5).symm
              have hAC5 := (ap_same (Ap.symm hAC3) hva5).symm
              have hbx5 := ho5.blk hbx3 hxa.1
              have hby5 := ho5.blk hby3 hxa.2
              have hs5 := only_below hs3 ho5 hwa (Nat.le_refl _)
              go_wp2_with fail
              refine (own_left hB5 (by omega) (by omega) HY.out H2.out).mono ?_
              rintro r w6 ⟨rfl, vb6, hB6, hvb6, ho6⟩
              have hA6 := hA5.only hB5 hab ho6 hAB5
              have hC6 := hC5.only hB5 (Ne.symm hbc) ho6 (Ap.symm hBC3)
              have hAB6 := ap_same hAB5 hvb6
              have hBC6 := (ap_same (Ap.symm hBC3) hvb6).symm
              have hbx6 := ho6.blk hbx5 hxb.1
              have hby6 := ho6.blk hby5 hxb.2
              have hs6 := only_below hs5 ho6 hwb (Nat.le_refl _)
              go_wp2_with fail
              refine (own_left hC6 (by omega) (by omega) HY.out H2.out).mono ?_
              rintro r w7 ⟨rfl, vc7, hC7, hvc7, ho7⟩
              have hA7 := hA6.only hC6 hac ho7 hAC5
              have hB7 := hB6.only hC6 hbc ho7 hBC6
              have hAC7 := ap_same hAC5 hvc7
              have hBC7 := ap_same hBC6 hvc7
              have hbx7 := ho7.blk hbx6 hxc.1
              have hby7 := ho7.blk hby6 hxc.2
              have hs7 := only_below hs6 ho7 hwc (Nat.le_refl _)
              obtain ⟨c7, e7⟩ := hbx7.two
              obtain ⟨p7, q7⟩ := hby7.two
              go_wp2
              go_roundw
              case rel => exact ⟨k + 1, t, va5, vb6, vc7, xs3, ys3, by omega, by omega, by go_num, rfl, by omega, by omega, hA7, hB7, hC7, hAB6, hAC7, hBC7, hbx7, hby7, hs7⟩
              case measure => simp [intOf]; omega
            case true =>
              obtain ⟨rr, hrr⟩ : ∃ r, useR B t xs = r := ⟨_, rfl⟩
              have US := Lib.hid (own_use hA1 (by omega) (show t < 4611686018427387904 by omega) (by omega) (by omega) hs.size)
              rw [hrr] at US
              clear hrr
              generalize useL B P t xs = xs2 at *
              go_wp2_with fail
              refine US.out.mono ?_
              rintro r w2 ⟨rfl, va2, hA2, hva2, ho2⟩
              have hB3 := hB2.two (o := none) hA1 (Ne.symm hab) ho2 hAB.symm
              have hC3 := hC1.two (o := none) hA1 (Ne.symm hac) ho2 hAC.symm
              have hAB2 := (ap_new hAB.symm hB2.tm hva2).symm
              have hAC2 := (ap_new hAC.symm hC1.tm hva2).symm
              have hbx2 := ho2.blk hx hxa.1 (box_ne hA1.tm hx)
              have hby2 := ho2.blk hy hxa.2 (box_ne hA1.tm hy)
              have hs2 := two_below hs ho2 hwa (fun k hk => Tm.own hA1.tm hk) (Nat.le_refl _)
              obtain ⟨xs3, hx3⟩ : ∃ l, notBack t xs2 = l := ⟨_, rfl⟩
              obtain ⟨ys3, hy3⟩ : ∃ l, notBack t ys = l := ⟨_, rfl⟩
              have l3 : (xs3.length : Int) ≤ B := by rw [← hx3]; have := notBack_le t xs2; omega
              have l4 : (ys3.length : Int) ≤ B' := by rw [← hy3]; have := notBack_le t ys; omega
              obtain ⟨u1, hu1⟩ : ∃ u, B - (xs3.length : Int) = u := ⟨_, rfl⟩
              obtain ⟨u2, hu2⟩ : ∃ u, B' - (ys3.length : Int) = u := ⟨_, rfl⟩
              have b1 : 0 ≤ u1 ∧ u1 ≤ B := by omega
              have b2 : 0 ≤ u2 ∧ u2 ≤ B' := by omega
              have HX := Lib.hid hx3
              have HY := Lib.hid hy3
              have H1 := Lib.hid hu1
              have H2 := Lib.hid hu2
              clear hx3 hy3 hu1 hu2 l3 l4
              go_wp2_with fail
              refine (own_left hA2 (by omega) (by omega) HX.out H1.out).mono ?_
              rintro r w5 ⟨rfl, va5, hA5, hva5, ho5⟩
              have hB5 := hB3.only hA2 (Ne.symm hab) ho5 (Ap.symm hAB2)
              have hC5 := hC3.only hA2 (Ne.symm hac) ho5 (Ap.symm hAC2)
              have hAB5 := (ap_same (Ap.symm hAB2) hva5).symm
              have hAC5 := (ap_same (Ap.symm hAC2) hva5).symm
              have hbx5 := ho5.blk hbx2 hxa.1
              have hby5 := ho5.blk hby2 hxa.2
              have hs5 := only_below hs2 ho5 hwa (Nat.le_refl _)
              go_wp2_with fail
              refine (own_left hB5 (by omega) (by omega) HY.out H2.out).mono ?_
              rintro r w6 ⟨rfl, vb6, hB6, hvb6, ho6⟩
              have hA6 := hA5.only hB5 hab ho6 hAB5
              have hC6 := hC5.only hB5 (Ne.symm hbc) ho6 (Ap.symm hBC)
              have hAB6 := ap_same hAB5 hvb6
              have hBC6 := (ap_same (Ap.symm hBC) hvb6).symm
              have hbx6 := ho6.blk hbx5 hxb.1
              have hby6 := ho6.blk hby5 hxb.2
              have hs6 := only_below hs5 ho6 hwb (Nat.le_refl _)
              go_wp2_with fail
              refine (own_left hC6 (by omega) (by omega) HY.out H2.out).mono ?_
              rintro r w7 ⟨rfl, vc7, hC7, hvc7, ho7⟩
              have hA7 := hA6.only hC6 hac ho7 hAC5
              have hB7 := hB6.only hC6 hbc ho7 hBC6
              have hAC7 := ap_same hAC5 hvc7
              have hBC7 := ap_same hBC6 hvc7
              have hbx7 := ho7.blk hbx6 hxc.1
              have hby7 := ho7.blk hby6 hxc.2
              have hs7 := only_below hs6 ho7 hwc (Nat.le_refl _)
              obtain ⟨c7, e7⟩ := hbx7.two
              obtain ⟨p7, q7⟩ := hby7.two
              go_wp2
              go_roundw
              case rel => exact ⟨k + 1, t, va5, vb6, vc7, xs3, ys3, by omega, by omega, by go_num, rfl, by omega, by omega, hA7, hB7, hC7, hAB6, hAC7, hBC7, hbx7, hby7, hs7⟩
              case measure => simp [intOf]; omega
          · go_wp2
            go_ret
            exact ⟨rfl, hs⟩
        · go_wp2
          go_ret
          exact ⟨rfl, hs⟩
    · go_enter Try.func6, Try.ntmps6
      go_wp2_with fail
      refine (awake_any _).mono ?_
      rintro r w1 ⟨rfl, hw1⟩
      obtain ⟨hx1, hy1, hs1⟩ := boxed2 hw1
      obtain ⟨c1, e1⟩ := hx1.two
      obtain ⟨p1, q1⟩ := hy1.two
      go_wp2_with fail
      refine (rmay_yes B P _ h).mono ?_
      rintro r w2 ⟨rfl, hw2⟩
      have hx2 := hx1.stay hw2
      have hy2 := hy1.stay hw2
      obtain ⟨c2, e2⟩ := hx2.two
      obtain ⟨p2, q2⟩ := hy2.two
      have hs2 := below_then hs1 hw2
      clear c1 e1 p1 q1
      go_wp2_with fail
      refine (rmay_no B' P' _ h' bP'.2).mono ?_
      rintro r w3 ⟨rfl, hw3⟩
      have hs3 := below_then hs2 hw3
      go_wp2_with fail
      go_ret
      exact ⟨rfl, hs3⟩
  · go_enter Try.func6, Try.ntmps6
    go_wp2_with fail
    refine (awake_any _).mono ?_
    rintro r w1 ⟨rfl, hw1⟩
    obtain ⟨hx1, hy1, hs1⟩ := boxed2 hw1
    obtain ⟨c1, e1⟩ := hx1.two
    obtain ⟨p1, q1⟩ := hy1.two
    go_wp2_with fail
    refine (rmay_no B P _ h bP.2).mono ?_
    rintro r w2 ⟨rfl, hw2⟩
    have hs2 := below_then hs1 hw2
    go_wp2_with fail
    go_ret
    exact ⟨rfl, hs2⟩

set_option maxRecDepth 100000 in
theorem lifted (os : Os) (started : os.Started) (H : Type) (enc : TypeId × Value → H) :
    ReturnsInHanded {} Try.checked os 6 .any (Rows.sporApartSpec.pre6 enc Try.prog Try.f6 Rows.sporApartRow.domain false) (Rows.sporApartSpec.post enc Try.prog Try.f6 false true false false) := by
  refine law_lifted (C := Try.checked) (tb := 4) own started (by kernel_rfl) Try.func6
    (ChangeSpec.witness6 (enc := enc) (C := Try.checked) false ⟨#[], #[.agg #[.int .i64 0, .int .u64 0], .agg #[.int .i64 0, .int .u64 0], .slice none 0 0], []⟩ 8 (by kernel_rfl) (by kernel_rfl) (by kernel_rfl) (by kernel_rfl)) laid (by kernel_rfl) (by kernel_rfl) Try.underlying4 rfl ?_
  intro W base args ds ps hval0 hA0 hlt
  have hval : ∀ (j : Nat) t v, Try.f6.params[j]? = some t → args[j]? = some v → Value.okWide Try.prog W .any base t v := hval0
  have hA : DataW.TrodAll enc Try.prog W 0 (fun _ => true) true Try.f6.params.toList args.toList ds ps := hA0
  clear hA0 hval0
  rw [Try.params6] at hA hval
  obtain ⟨v0, vs0, d0, ds0, p0, q0, hargs, rfl, rfl, h0, r0⟩ := trodAll_cons hA
  obtain ⟨v1, vs1, d1, ds1, p1, q1, rfl, rfl, rfl, h1, r1⟩ := trodAll_cons r0
  obtain ⟨v2, vs2, d2, ds2, p2, q2, rfl, rfl, rfl, h2, r2⟩ := trodAll_cons r1
  obtain ⟨rfl, rfl, rfl⟩ := trodAll_nil r2
  obtain rfl : args = #[v0, v1, v2] := by cases args; simp_all
  obtain ⟨cs0, rfl, sz0, ok0⟩ := open_flat (ts := [3, 22]) (Or.inl ⟨_, Try.underlying24⟩) (by kernel_rfl) (by kernel_rfl) (hval 0 24 v0 rfl rfl)
  obtain ⟨c0_0, c0_1, rfl⟩ := size2 sz0
  obtain ⟨a0_0, rfl, w0_0⟩ := cell_int Try.underlying3 (ok0 0 _ _ rfl rfl)
  obtain ⟨a0_1, rfl, w0_1⟩ := cell_int Try.underlying22 (ok0 1 _ _ rfl rfl)
  obtain ⟨cs1, rfl, sz1, ok1⟩ := open_flat (ts := [3, 22]) (Or.inl ⟨_, Try.underlying24⟩) (by kernel_rfl) (by kernel_rfl) (hval 1 24 v1 rfl rfl)
  obtain ⟨c1_0, c1_1, rfl⟩ := size2 sz1
  obtain ⟨a1_0, rfl, w1_0⟩ := cell_int Try.underlying3 (ok1 0 _ _ rfl rfl)
  obtain ⟨a1_1, rfl, w1_1⟩ := cell_int Try.underlying22 (ok1 1 _ _ rfl rfl)
  obtain ⟨A2, n2, cap2, V2, rfl, le2, mx2, rd2, fl2⟩ := open_slice_flat (m := 2) Try.underlying45 Try.underlying47 (by kernel_rfl) rfl (by decide) (fun i f h => by match i, h with | 0, h => cases h; exact ⟨rfl, by kernel_rfl⟩ | 1, h => cases h; exact ⟨rfl, by kernel_rfl⟩ | n + 2, h => simp at h) (hval 2 45 v2 rfl rfl) h2
  have f2_0 := (fl2 0 _ rfl).2 Try.underlying4
  have f2_1 := (fl2 1 _ rfl).1 _ Try.underlying22
  refine ⟨⟨rfl, rfl, rfl⟩, ?_⟩
  have b0 := bounds_u64 w0_1
  have b1 := bounds_u64 w1_1
  exact walk a0_0 a0_1 a1_0 a1_1 A2 n2 cap2 V2 W b0 b1 (by omega) rd2 f2_0 (fun j hj => by obtain ⟨z, hz, hw⟩ := f2_1 j hj; exact ⟨z, hz, bounds_u64 hw⟩)

theorem over : Rows.sporApartRow.holds Try.pinned (OpenSpec.ofChange Rows.sporApartSpec) :=
  OpenClaim.holds_of_wide 6 Try.f6 rfl rfl rfl rfl rfl rfl rfl ⟨rfl, rfl, rfl, rfl, rfl⟩ rfl rfl rfl rfl rfl (by kernel_rfl) Try.func6 (by kernel_rfl)
    (of_decide_eq_true (by kernel_rfl)) (by unfold Func.isWrapper; first | (rw [if_pos (by decide +kernel)]; kernel_rfl) | (rw [if_neg (by decide +kernel)]; exact ⟨rfl, rfl⟩))
    (fun os started H enc _ => lifted os started H enc)
theorem proved : Rows.SporApartSaid := over
#print axioms proved
end Go.Proofs.Ytnmkjonhoapkpaa.sporApart
