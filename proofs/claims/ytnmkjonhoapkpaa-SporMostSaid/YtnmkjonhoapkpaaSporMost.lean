/-
  For every server, every slice of bools and every byte SporMost answers true, and changes nothing: in any span of a period no more than the budget is used, in any span no more than the document's bound. No condition.
-/
import Derived.Test.YtnmkjonhoapkpaaRows
import Derived.Test.YtnmkjonhoapkpaaFr
import Derived.Test.YtnmkjonhoapkpaaSporO
import Derived.LoopTactic
namespace Go.Proofs.Ytnmkjonhoapkpaa.sporMost
open Go.ChangeShapes Go.WideShapes Go.ChangeAt Go.RowKit
set_option linter.unusedVariables false
theorem own : ownKnob Try.prog.godebug = none := by kernel_rfl
theorem laid : laidOutB Try.prog = true := by kernel_rfl
set_option maxRecDepth 100000
set_option maxHeartbeats 1000000
/-- How many of the times are c, or later. -/
def lat (c : Int) (xs : List Int) : Int := ((xs.filter (fun x => decide (c ≤ x))).length : Int)
theorem lat_le (c : Int) (xs : List Int) : lat c xs ≤ xs.length := by unfold lat; have := List.length_filter_le (fun x => decide (c ≤ x)) xs; omega
theorem lat_back {c now : Int} (h : now < c) (xs : List Int) : lat c (notBack now xs) = lat c xs := by
  induction xs with
  | nil => rfl
  | cons x xs ih =>
    unfold notBack at ih ⊢
    rw [List.dropWhile_cons]
    by_cases hx : x ≤ now
    · rw [if_pos (by simpa using hx), ih]
      unfold lat
      rw [List.filter_cons, if_neg (by simp; omega)]
    · rw [if_neg (by simpa using hx)]
theorem lat_snoc {c y : Int} (h : c ≤ y) (xs : List Int) : lat c (xs ++ [y]) = lat c xs + 1 := by
  unfold lat
  rw [List.filter_append]
  simp [h]
/-- What is known ahead of time t: A tells how many were used ahead of each time. -/
structure OO (B P : Int) (A : Nat → Int) (t : Nat) (N : Int) (xs : List Int) : Prop where
  zero : ∀ i, t < i → A i = A i
  bnd : ∀ i, 0 ≤ A i ∧ A i ≤ t
  step : ∀ f to : Nat, f ≤ to → to ≤ t → A f ≤ A to ∧ A to ≤ A f + ((to : Int) - f)
  win : ∀ f to : Nat, f ≤ to → to ≤ t → (to : Int) - f ≤ P → A to - A f ≤ B
  cnt : ∀ f : Nat, f ≤ t → N < f + P → A t - A f ≤ lat (f + P) xs
  len : (xs.length : Int) ≤ B
theorem OO.zero_ {B P : Int} (hB : 1 ≤ B) : OO B P (fun _ => 0) 0 0 [] := by
  refine ⟨fun _ _ => rfl, fun i => by omega, fun f to h1 h2 => by omega, fun f to h1 h2 h3 => by omega, fun f hf hN => ?_, by simp; omega⟩
  show (0 : Int) - 0 ≤ lat _ []
  unfold lat; simp
theorem OO.next {B P N : Int} {A : Nat → Int} {t : Nat} {xs ys : List Int} {x N' : Int} (h : OO B P A t N xs) (hx : A t ≤ x) (hx1 : x ≤ A t + 1) (hl : (ys.length : Int) ≤ B) (hN' : N' ≤ t) (hB : 0 ≤ B)
    (hc : ∀ f : Nat, f ≤ t → N' < f + P → x - A f ≤ lat (f + P) ys) : OO B P (fun j => if j = t + 1 then x else A j) (t + 1) N' ys := by
  have hb := h.bnd t
  refine ⟨fun _ _ => rfl, fun j => ?_, fun f to h1 h2 => ?_, fun f to h1 h2 h3 => ?_, fun f hf hN => ?_, hl⟩
  · split
    · omega
    · have := h.bnd j; omega
  · by_cases e : to = t + 1
    · rw [if_pos e]
      by_cases e2 : f = t + 1
      · rw [if_pos e2]; omega
      · rw [if_neg e2]; have := h.step f t (by omega) (Nat.le_refl _); omega
    · rw [if_neg e, if_neg (by omega)]; exact h.step f to h1 (by omega)
  · by_cases e : to = t + 1
    · rw [if_pos e]
      by_cases e2 : f = t + 1
      · rw [if_pos e2]; omega
      · rw [if_neg e2]; have := hc f (by omega) (by omega); have := lat_le (f + P) ys; omega
    · rw [if_neg e, if_neg (by omega)]; exact h.win f to h1 (by omega) h3
  · rw [if_pos rfl]
    by_cases e2 : f = t + 1
    · rw [if_pos e2]
      have : 0 ≤ lat (f + P) ys := by unfold lat; omega
      omega
    · rw [if_neg e2]; exact hc f (by omega) hN
theorem OO.skip {B P N : Int} {A : Nat → Int} {t : Nat} {xs : List Int} (h : OO B P A t N xs) (hN : N ≤ t) (hB : 0 ≤ B) : OO B P (fun j => if j = t + 1 then A t else A j) (t + 1) N xs :=
  h.next (Int.le_refl _) (by omega) h.len hN hB h.cnt
theorem OO.no {B P N : Int} {A : Nat → Int} {t : Nat} {xs : List Int} (h : OO B P A t N xs) (hN : N ≤ t) (hB : 0 ≤ B) : OO B P (fun j => if j = t + 1 then A t else A j) (t + 1) t (notBack t xs) :=
  h.next (Int.le_refl _) (by omega) (by have := notBack_le t xs; have := h.len; omega) (Int.le_refl _) hB fun f hf h1 => by rw [lat_back h1]; exact h.cnt f hf (by omega)
theorem OO.yes {B P N : Int} {A : Nat → Int} {t : Nat} {xs : List Int} (h : OO B P A t N xs) (hN : N ≤ t) (hB : 0 ≤ B) (hP : 0 ≤ P) (hl : ((notBack t xs).length : Int) < B) : OO B P (fun j => if j = t + 1 then A t + 1 else A j) (t + 1) t (notBack t xs ++ [(t : Int) + P]) :=
  h.next (by omega) (Int.le_refl _) (by simp; omega) (Int.le_refl _) hB fun f hf h1 => by rw [lat_snoc (by omega), lat_back h1]; have := h.cnt f hf (by omega); omega
theorem tUp_more {P s : Int} (hP : 1 ≤ P) : tUp (s + P) P = tUp s P + 1 := by
  unfold tUp
  rw [show s + P + P - 1 = (s + P - 1) + 1 * P by omega, Int.add_mul_ediv_right _ _ (by omega)]
theorem tUp_one {P s : Int} (hP : 1 ≤ P) (h0 : 1 ≤ s) (h1 : s ≤ P) : tUp s P = 1 := by
  unfold tUp
  rw [show s + P - 1 = (s - 1) + 1 * P by omega, Int.add_mul_ediv_right _ _ (by omega), Int.ediv_eq_zero_of_lt (by omega) (by omega)]; rfl
theorem OO.done {B P N : Int} {A : Nat → Int} {t : Nat} {xs : List Int} (h : OO B P A t N xs) (hP : 1 ≤ P) (hB : 1 ≤ B) : ∀ (k f to : Nat), to - f ≤ k → f ≤ to → to ≤ t → A to - A f ≤ B * tUp ((to : Int) - f) P
  | 0, f, to, hk, h1, h2 => by
    obtain rfl : f = to := by omega
    have e : tUp ((f : Int) - f) P = 0 := by unfold tUp; rw [show (f : Int) - f + P - 1 = P - 1 by omega]; exact Int.ediv_eq_zero_of_lt (by omega) (by omega)
    rw [e]; omega
  | k + 1, f, to, hk, h1, h2 => by
    by_cases e : f = to
    · subst e
      have e : tUp ((f : Int) - f) P = 0 := by unfold tUp; rw [show (f : Int) - f + P - 1 = P - 1 by omega]; exact Int.ediv_eq_zero_of_lt (by omega) (by omega)
      rw [e]; omega
    · by_cases hle : (to : Int) - f ≤ P
      · rw [tUp_one hP (by omega) hle, Int.mul_one]; exact h.win f to h1 h2 hle
      · have hp : (P.toNat : Int) = P := by omega
        have a1 := h.win f (f + P.toNat) (by omega) (by omega) (by omega)
        have a2 := h.done hP hB k (f + P.toNat) to (by omega) (by omega) h2
        have e2 : (to : Int) - f = ((to : Int) - ((f + P.toNat : Nat) : Int)) + P := by omega
        rw [e2, tUp_more hP, Int.mul_add, Int.mul_one]
        omega
theorem OO.most {B P N : Int} {A : Nat → Int} {t : Nat} {xs : List Int} (h : OO B P A t N xs) (hP : 1 ≤ P) (hB : 1 ≤ B) {f to : Nat} (h1 : f ≤ to) (h2 : to ≤ t) : 0 ≤ A to - A f ∧ A to - A f ≤ smst B P ((to : Int) - f) := by
  have a := h.done hP hB _ f to (Nat.le_refl _) h1 h2
  have b := h.step f to h1 h2
  unfold smst
  split <;> omega
theorem at_next (A : Nat → Int) (t : Nat) (x : Int) : (fun j => if j = t + 1 then Value.int .i64 x else Value.int .i64 (A j)) = fun j => Value.int .i64 (if j = t + 1 then x else A j) := by funext j; split <;> rfl
theorem at_again (A : Nat → Int) (t : Nat) (x y : Int) : (fun j => if j = t + 1 then Value.int .i64 y else Value.int .i64 (if j = t + 1 then x else A j)) = fun j => Value.int .i64 (if j = t + 1 then y else A j) := by funext j; split <;> rfl
theorem Ytnmkjonhoapkpaai : (Try.prog.info? 3).map (fun i => (i.zero, i.size, i.bytes)) = some (some (.int .i64 0), 1, 8) := by kernel_rfl
theorem walk (B P a : Int) (F : Option Addr) (n cap : Nat) (f : Nat → Bool) (w : World) (bP : 0 ≤ P ∧ P ≤ 18446744073709551615) (ba : 0 ≤ a ∧ a ≤ 255) (hm : n ≤ maxLen) (rd : Rd w F n (fun i => .bool (f i))) :
    Calls Try.prog 3 #[.agg #[.int .i64 B, .int .u64 P], .slice F n cap, .int .u8 a] w fun r w' => r = .returned (.bool true) ∧ Below w.heap.size w w' := by
  unfold maxLen at hm
  have g0 : 0 ≤ a % 200 := Int.emod_nonneg _ (by omega)
  have g1 : a % 200 < 200 := Int.emod_lt_of_pos _ (by omega)
  have sb : St w None _ [_] := (St.begin w).box 24 #[.int .i64 B, .int .u64 P]
  obtain ⟨b0, b1⟩ := (sb.blk 0 rfl).two
  have mk : ∀ W : World, (Instr.makeSlice 32 (.int .i64 201) (.int .i64 201)).run Try.prog W = .ok (.slice (some ⟨W.heap.size, 0, none⟩) 201 201) (W.alloc (.cells (madeCells #[.int .i64 0] 201) 3)) := by
    obtain ⟨i0, hi, hz0, hz1, hz2⟩ := info_parts Ytnmkjonhoapkpaai
    intro W
    exact run_make_rowN (P := Try.prog) 32 3 i0 (.int .i64 0) Try.underlying32 hi hz0 rfl hz1 .i64 .i64 201 (by rw [hz2]; omega) (by omega) W
  by_cases h : SOK B P
  · by_cases hn0 : n = 0
    · subst hn0
      clear mk
      go_enter Try.func3, Try.ntmps3
      go_wp2_with fail
      refine (looks (awake_any _) sb).mono ?_
      rintro r w1 ⟨rfl, s1⟩
      clear b0 b1
      obtain ⟨b0, b1⟩ := (s1.blk 0 rfl).two
      go_wp2_with fail
      refine (bud_new s1 h).mono ?_
      rintro r w2 ⟨bk, rfl, s2⟩
      clear b0 b1
      obtain ⟨b0, b1⟩ := (s2.blk 0 rfl).two
      go_wp2_with fail
      refine (looks (rmay_yes B P _ h) s2).mono ?_
      rintro r w3 ⟨rfl, s3⟩
      go_wp2
      go_ret
      exact ⟨rfl, s3.below⟩
    · have dn2 : ((n : Int) == 0) = false := beq_eq_false_iff_ne.2 (by omega)
      have dn3 : (n == 0) = false := beq_eq_false_iff_ne.2 hn0
      go_enter Try.func3, Try.ntmps3
      go_wp2_with fail
      refine (looks (awake_any _) sb).mono ?_
      rintro r w1 ⟨rfl, s1⟩
      clear b0 b1
      obtain ⟨b0, b1⟩ := (s1.blk 0 rfl).two
      go_wp2_with fail
      refine (bud_new s1 h).mono ?_
      rintro r w2 ⟨bk, rfl, s2⟩
      clear b0 b1
      obtain ⟨b0, b1⟩ := (s2.blk 0 rfl).two
      go_wp2_with fail
      refine (looks (rmay_yes B P _ h) s2).mono ?_
      rintro r w3 ⟨rfl, s3⟩
      have s4 : St w None _ [_, _, _] := s3.made_row 3 201 (.int .i64 0)
      clear b0 b1 s1 s2 s3 sb
      go_wp2_with fail
      generalize w3.heap.size = ab at *
      unfold SOK at h
      clear mk
      have O0 := OO.zero_ (B := B) (P := P) (by omega)
      go_loopw [10] (fun x wr => ∃ (t : Nat) (A : Nat → Int) (N : Int) (xs : List Int), t ≤ 200 ∧ x = .int .i64 t ∧ 0 ≤ N ∧ N ≤ t ∧ OO B P A t N xs ∧ St w None wr [BlkR w.heap.size 24 #[.int .i64 B, .int .u64 P], BudR bk B P N xs, ArrR ab 3 201 (fun i => .int .i64 (A i))]) (fun x _ => 200 - (intOf x).toNat)
      case atStart => exact ⟨0, _, _, _, by omega, rfl, by omega, by omega, O0, s4⟩
      case round =>
        clear s4 O0
        obtain ⟨t, A, N, xs, ht, rfl, n0, n1, ho, sr⟩ := hrel
        by_cases hlt : t < 200
        · have dt : decide ((t : Int) < 200) = true := decide_eq_true (by omega)
          obtain ⟨sc, off, rfl, hsb, hcell⟩ := rd (by omega)
          have hkn : t % n < n := Nat.mod_lt _ (by omega)
          have hy0 := hcell _ hkn
          have cA := sr.arr_cell 2 rfl (show t < 201 by omega)
          have cA1 := sr.arr_cell 2 rfl (show t + 1 < 201 by omega)
          have fA := sr.arr_frozen 2 rfl (t + 1)
          have s4' := sr.arr_set 2 rfl (show t + 1 < 201 by omega) (.int .i64 (A t))
          rw [at_next] at s4'
          have s4 : St w None _ [_, _, _] := s4'
          have hy : (wr.setCell ⟨ab, t + 1, none⟩ (.int .i64 (A t))).cell? ⟨sc, off + t % n, none⟩ = some (.bool (f (t % n))) := (s4.cell (p := ⟨sc, off + t % n, none⟩) hsb id).trans hy0
          have hA0 := ho.bnd t
          have S4 := Lib.hid s4
          obtain ⟨x, hx⟩ : ∃ x, A t = x := ⟨_, rfl⟩
          rw [hx] at cA S4 hA0 hy
          generalize A (t + 1) = y at *
          clear s4 s4' sr hcell hy0
          cases hfk : f (t % n) with
          | false =>
            rw [hfk] at hy
            have HO := Lib.hid (ho.skip n1 (by omega))
            rw [hx] at HO
            clear ho hx hfk
            go_wp2
            go_roundw
            case rel => exact ⟨t + 1, _, N, xs, by omega, by go_num, by omega, by omega, HO.out, S4.out⟩
            case measure => simp [intOf]; omega
          | true =>
            rw [hfk] at hy
            have US := Lib.hid (bud_use (now := t) S4.out 1 rfl (by omega) ho.len n1 (by omega) (by omega) (by omega))
            unfold useR useL at US
            by_cases hl : ((notBack t xs).length : Int) < B
            · rw [decide_eq_true hl, if_pos hl] at US
              have HO := Lib.hid (ho.yes n1 (by omega) (by omega) hl)
              rw [hx] at HO
              clear ho hx hfk hl
              go_wp2_with fail
              refine US.out.mono ?_
              rintro e w6 ⟨rfl, s6'⟩
              have s6 : St w None w6 [_, _, _] := s6'
              have c6 := s6.arr_cell 2 rfl (show t + 1 < 201 by omega)
              have f6 := s6.arr_frozen 2 rfl (t + 1)
              rw [if_pos rfl] at c6
              have s7' := s6.arr_set 2 rfl (show t + 1 < 201 by omega) (.int .i64 (x + 1))
              rw [at_again] at s7'
              have s7 : St w None _ [_, _, _] := s7'
              have S7 := Lib.hid s7
              clear s7 s7' s6 s6' US
              go_wp2
              go_roundw
              case rel => exact ⟨t + 1, _, t, _, by omega, by go_num, by omega, by omega, HO.out, S7.out⟩
              case measure => simp [intOf]; omega
            · rw [decide_eq_false hl, if_neg hl] at US
              have HO := Lib.hid (ho.no n1 (by omega))
              rw [hx] at HO
              clear ho hx hfk hl
              go_wp2_with fail
              refine US.out.mono ?_
              rintro e w6 ⟨rfl, s6'⟩
              have s6 : St w None w6 [_, _, _] := s6'
              clear US
              go_wp2
              go_roundw
              case rel => exact ⟨t + 1, _, t, _, by omega, by go_num, by omega, by omega, HO.out, s6⟩
              case measure => simp [intOf]; omega
        · have h200 : 200 ≤ t := by omega
          have dt : decide ((t : Int) < 200) = false := decide_eq_false (by omega)
          have HO := Lib.hid ho
          clear ho
          obtain ⟨p, hp⟩ : ∃ p : Nat, a % 200 = (p : Int) := ⟨(a % 200).toNat, by omega⟩
          have hp2 : p < 200 := by omega
          clear g0 g1
          go_wp2_with fail
          try rw [hp]
          clear hp
          go_loopw [14, 15] (fun y _ wr => ∃ q : Nat, y = .int .i64 q ∧ p ≤ q ∧ q ≤ 201 ∧ St w None wr [BlkR w.heap.size 24 #[.int .i64 B, .int .u64 P], BudR bk B P N xs, ArrR ab 3 201 (fun i => .int .i64 (A i))]) (fun y _ _ => 201 - (intOf y).toNat)
          case atStart => exact ⟨p, rfl, by omega, by omega, sr⟩
          case round =>
            clear sr
            obtain ⟨q, rfl, hpq, hq, sr⟩ := hrel
            by_cases hl3 : q ≤ 200
            · obtain ⟨d0, d1⟩ := HO.out.most (by omega) (by omega) hpq (by omega)
              have hwin := HO.out.win p q hpq (by omega)
              have c1 := sr.arr_cell 2 rfl (show p < 201 by omega)
              have c2 := sr.arr_cell 2 rfl (show q < 201 by omega)
              obtain ⟨e0, e1⟩ := (sr.blk 0 rfl).two
              have b1 := HO.out.bnd p
              have b2 := HO.out.bnd q
              generalize A p = x at *
              generalize A q = y at *
              have hsm := smost_any B P ((q : Int) - p)
              generalize smst B P ((q : Int) - p) = mm at *
              have HM := Lib.hid hsm
              have dq : decide (mm < y - x) = false := decide_eq_false (by omega)
              have i0 : (0 : Int) ≤ (p : Int) := by omega
              have i1 : (p : Int) < 201 := by omega
              have i2 : (0 : Int) ≤ (q : Int) := by omega
              have i3 : (q : Int) < 201 := by omega
              have w1 : IntKind.i64.wrap (y - x) = y - x := IntWalk.i64_in _ ⟨by omega, by omega⟩
              have w2 : IntKind.u64.wrap (y - x) = y - x := IntWalk.u64_in _ ⟨by omega, by omega⟩
              clear d1 b1 b2 hsm
              go_wp2_with fail
              go_quiet (fail)
              go_wp2_with fail
              refine (looks (HM.out _ h (by omega) (by omega)) (sr.drewN _)).mono ?_
              rintro e w9 ⟨rfl, s9⟩
              clear e0 e1
              obtain ⟨e0, e1⟩ := (s9.blk 0 rfl).two
              by_cases hle : (q : Int) - p ≤ P
              · have dle : decide ((q : Int) - p ≤ P) = true := decide_eq_true hle
                have dB : decide (B < y - x) = false := decide_eq_false (by have := hwin hle; omega)
                clear hwin hle
                go_wp2
                go_roundw
                case rel => exact ⟨q + 1, by go_num, by omega, by omega, s9⟩
                case measure => simp [intOf]; omega
              · have dle : decide ((q : Int) - p ≤ P) = false := decide_eq_false hle
                clear hwin hle
                go_wp2
                go_roundw
                case rel => exact ⟨q + 1, by go_num, by omega, by omega, s9⟩
                case measure => simp [intOf]; omega
            · go_wp2
              go_ret
              exact ⟨rfl, sr.below⟩
  · clear mk
    by_cases hn0 : n = 0
    · subst hn0
      go_enter Try.func3, Try.ntmps3
      go_wp2_with fail
      refine (looks (awake_any _) sb).mono ?_
      rintro r w1 ⟨rfl, s1⟩
      clear b0 b1
      obtain ⟨b0, b1⟩ := (s1.blk 0 rfl).two
      go_wp2_with fail
      refine (looks (new_arg B P _ h bP.2) s1).mono ?_
      rintro r w2 ⟨rfl, s2⟩
      clear b0 b1
      obtain ⟨b0, b1⟩ := (s2.blk 0 rfl).two
      go_wp2_with fail
      refine (looks (rmay_no B P _ h bP.2) s2).mono ?_
      rintro r w3 ⟨rfl, s3⟩
      go_wp2
      go_ret
      exact ⟨rfl, s3.below⟩
    · have dn2 : ((n : Int) == 0) = false := beq_eq_false_iff_ne.2 (by omega)
      have dn3 : (n == 0) = false := beq_eq_false_iff_ne.2 hn0
      go_enter Try.func3, Try.ntmps3
      go_wp2_with fail
      refine (looks (awake_any _) sb).mono ?_
      rintro r w1 ⟨rfl, s1⟩
      clear b0 b1
      obtain ⟨b0, b1⟩ := (s1.blk 0 rfl).two
      go_wp2_with fail
      refine (looks (new_arg B P _ h bP.2) s1).mono ?_
      rintro r w2 ⟨rfl, s2⟩
      clear b0 b1
      obtain ⟨b0, b1⟩ := (s2.blk 0 rfl).two
      go_wp2_with fail
      refine (looks (rmay_no B P _ h bP.2) s2).mono ?_
      rintro r w3 ⟨rfl, s3⟩
      go_wp2
      go_ret
      exact ⟨rfl, s3.below⟩

set_option maxRecDepth 100000 in
theorem lifted (os : Os) (started : os.Started) (H : Type) (enc : TypeId × Value → H) :
    ReturnsInHanded {} Try.checked os 3 .any (Rows.sporMostSpec.pre6 enc Try.prog Try.f3 Rows.sporMostRow.domain false) (Rows.sporMostSpec.post enc Try.prog Try.f3 false true false false) := by
  refine law_lifted (C := Try.checked) (tb := 4) own started (by kernel_rfl) Try.func3
    (ChangeSpec.witness6 (enc := enc) (C := Try.checked) false ⟨#[], #[.agg #[.int .i64 0, .int .u64 0], .slice none 0 0, .int .u8 0], []⟩ 8 (by kernel_rfl) (by kernel_rfl) (by kernel_rfl) (by kernel_rfl)) laid (by kernel_rfl) (by kernel_rfl) Try.underlying4 rfl ?_
  intro W base args ds ps hval0 hA0 hlt
  have hval : ∀ (j : Nat) t v, Try.f3.params[j]? = some t → args[j]? = some v → Value.okWide Try.prog W .any base t v := hval0
  have hA : DataW.TrodAll enc Try.prog W 0 (fun _ => true) true Try.f3.params.toList args.toList ds ps := hA0
  clear hA0 hval0
  rw [Try.params3] at hA hval
  obtain ⟨v0, vs0, d0, ds0, p0, q0, hargs, rfl, rfl, h0, r0⟩ := trodAll_cons hA
  obtain ⟨v1, vs1, d1, ds1, p1, q1, rfl, rfl, rfl, h1, r1⟩ := trodAll_cons r0
  obtain ⟨v2, vs2, d2, ds2, p2, q2, rfl, rfl, rfl, h2, r2⟩ := trodAll_cons r1
  obtain ⟨rfl, rfl, rfl⟩ := trodAll_nil r2
  obtain rfl : args = #[v0, v1, v2] := by cases args; simp_all
  obtain ⟨cs0, rfl, sz0, ok0⟩ := open_flat (ts := [3, 22]) (Or.inl ⟨_, Try.underlying24⟩) (by kernel_rfl) (by kernel_rfl) (hval 0 24 v0 rfl rfl)
  obtain ⟨c0_0, c0_1, rfl⟩ := size2 sz0
  obtain ⟨a0_0, rfl, w0_0⟩ := cell_int Try.underlying3 (ok0 0 _ _ rfl rfl)
  obtain ⟨a0_1, rfl, w0_1⟩ := cell_int Try.underlying22 (ok0 1 _ _ rfl rfl)
  obtain ⟨A1, n1, cap1, f1, rfl, le1, mx1, rd1⟩ := open_slice_bools Try.underlying25 Try.underlying4 (by kernel_rfl) (hval 1 25 v1 rfl rfl) h1
  obtain ⟨a2, rfl, rfl, rfl, w2⟩ := open_int Try.underlying5 (hval 2 5 v2 rfl rfl) h2
  refine ⟨⟨rfl, rfl, rfl⟩, ?_⟩
  exact walk a0_0 a0_1 a2 A1 n1 cap1 f1 W (bounds_u64 w0_1) (bounds_u8 w2) (by omega) rd1

theorem over : Rows.sporMostRow.holds Try.pinned (OpenSpec.ofChange Rows.sporMostSpec) :=
  OpenClaim.holds_of_wide 3 Try.f3 rfl rfl rfl rfl rfl rfl rfl ⟨rfl, rfl, rfl, rfl, rfl⟩ rfl rfl rfl rfl rfl (by kernel_rfl) Try.func3 (by kernel_rfl)
    (of_decide_eq_true (by kernel_rfl)) (by unfold Func.isWrapper; first | (rw [if_pos (by decide +kernel)]; kernel_rfl) | (rw [if_neg (by decide +kernel)]; exact ⟨rfl, rfl⟩))
    (fun os started H enc _ => lifted os started H enc)
theorem proved : Rows.SporMostSaid := over
#print axioms proved
end Go.Proofs.Ytnmkjonhoapkpaa.sporMost
