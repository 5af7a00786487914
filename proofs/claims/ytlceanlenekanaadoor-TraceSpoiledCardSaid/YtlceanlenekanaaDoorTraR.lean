/- Layer 25: are two records the same? -/
import Derived.Test.YtlceanlenekanaaDoorTraQ
namespace Go.Proofs.YtlceanlenekanaaDoor
open Go.RowKit
set_option linter.unusedVariables false
set_option maxRecDepth 100000
set_option maxHeartbeats 4000000
theorem beq3_all (x y z x' y' z' : Int) : ((x, y, z) = (x', y', z')) ∨ (((x == x') = false ∨ ((x == x') = true ∧ (y == y') = false) ∨ ((x == x') = true ∧ (y == y') = true ∧ (z == z') = false)) ∧ (x, y, z) ≠ (x', y', z')) := by
  by_cases h1 : x = x'
  · by_cases h2 : y = y'
    · by_cases h3 : z = z'
      · exact Or.inl (by rw [h1, h2, h3])
      · exact Or.inr ⟨Or.inr (Or.inr ⟨beq_iff_eq.2 h1, beq_iff_eq.2 h2, beq_eq_false_iff_ne.2 h3⟩), fun e => h3 (Prod.mk.inj (Prod.mk.inj e).2).2⟩
    · exact Or.inr ⟨Or.inr (Or.inl ⟨beq_iff_eq.2 h1, beq_eq_false_iff_ne.2 h2⟩), fun e => h2 (Prod.mk.inj (Prod.mk.inj e).2).1⟩
  · exact Or.inr ⟨Or.inl (beq_eq_false_iff_ne.2 h1), fun e => h1 (Prod.mk.inj e).1⟩
theorem ints_o (A B : Option Addr) (n m c d : Nat) (xs ys : List Int) (w : World) (hn : xs.length = n) (hm : ys.length = m) (hn2 : n ≤ 1000000) (hm2 : m ≤ 1000000) (hA : RdI w A xs) (hB : RdI w B ys) :
    Calls Tryd.prog 37 #[.slice A n c, .slice B m d] w fun e w' => e = .returned (.bool (decide (xs = ys))) ∧ Below w.heap.size w w' := by
  by_cases hnm : (n : Int) = (m : Int)
  · obtain rfl : n = m := by omega
    have y0 : ((n : Int) == (n : Int)) = true := beq_iff_eq.2 rfl
    have y00 : ((n : Int) != (n : Int)) = false := by simp
    go_enter Tryd.func37, Tryd.ntmps37
    go_wp2
    go_loopw [5] (fun x5 wr => ∃ i : Nat, i ≤ n ∧ x5 = .int .i64 (i : Int) ∧ xs.take i = ys.take i ∧ St w None wr []) (fun x5 _ => n - (intOf x5).toNat)
    case atStart => exact ⟨0, Nat.zero_le _, rfl, rfl, St.begin w⟩
    case round =>
    obtain ⟨i, hi, rfl, heq, hs⟩ := hrel
    have HE := Lib.hid heq
    clear heq
    by_cases hlt : i < n
    · have z1 : decide ((i : Int) < (n : Int)) = true := decide_eq_true (by omega)
      obtain ⟨x, hx⟩ : ∃ x, xs[i]? = some x := ⟨xs[i]'(by omega), List.getElem?_eq_getElem _⟩
      obtain ⟨y, hy⟩ : ∃ y, ys[i]? = some y := ⟨ys[i]'(by omega), List.getElem?_eq_getElem _⟩
      obtain ⟨g, o, rfl, l1, c1⟩ := (hA.on2 hs.below) i x hx
      obtain ⟨g', o', rfl, l2, d1⟩ := (hB.on2 hs.below) i y hy
      have HX := Lib.hid hx
      have HY := Lib.hid hy
      have HS := Lib.hid hs
      clear hx hy hs
      by_cases hxy : x = y
      · subst hxy
        have H2 := Lib.hid (show xs.take (i + 1) = ys.take (i + 1) by rw [List.take_add_one, List.take_add_one, HE.out, HX.out, HY.out])
        have y2 : (x == x) = true := beq_iff_eq.2 rfl
        go_wp2_with fail
        go_region_held3 (fun W => W.cell? ⟨g, o + i, none⟩ = some (.int .i64 x) ∧ W.cell? ⟨g', o' + i, none⟩ = some (.int .i64 x)) (go_keep) (fail)
        all_goals
          go_wp2_with fail
          go_roundw
          case rel => exact ⟨i + 1, by omega, by go_num, H2.out, by first | exact HS.out | exact HS.out.drew | exact HS.out.drewN _⟩
          case measure => simp [intOf]; omega
      · have y2 : (x == y) = false := beq_eq_false_iff_ne.2 hxy
        have HN := Lib.hid (show ¬ xs = ys from fun e => hxy (by have := HX.out; rw [e, HY.out] at this; exact (Option.some.inj this).symm))
        go_wp2_with fail
        go_region_held3 (fun W => W.cell? ⟨g, o + i, none⟩ = some (.int .i64 x) ∧ W.cell? ⟨g', o' + i, none⟩ = some (.int .i64 y)) (go_keep) (fail)
        all_goals
          have hs := HS.out
          go_wp2_with fail
          go_ret
          exact ⟨by rw [decide_eq_false HN.out]; rfl, by first | exact hs.below | exact hs.drew.below | exact (hs.drewN _).below⟩
    obtain rfl : i = n := by omega
    have z1 : decide ((i : Int) < (i : Int)) = false := decide_eq_false (by omega)
    have he : xs = ys := by
      have := HE.out
      rw [List.take_of_length_le (by omega), List.take_of_length_le (by omega)] at this; exact this
    have HN := Lib.hid he
    clear he
    go_wp2
    go_ret
    exact ⟨by rw [decide_eq_true HN.out]; rfl, hs.below⟩
  · have y0 : ((n : Int) == (m : Int)) = false := beq_eq_false_iff_ne.2 hnm
    have y00 : ((n : Int) != (m : Int)) = true := bne_iff_ne.2 hnm
    have HN := Lib.hid (show ¬ xs = ys from fun e => hnm (by rw [← hn, ← hm, e]))
    go_enter Tryd.func37, Tryd.ntmps37
    go_wp2
    go_ret
    exact ⟨by rw [decide_eq_false HN.out]; rfl, Below.refl _ _⟩
theorem fates_o (A B : Option Addr) (n m c d : Nat) (xs ys : List (Int × Int × Int)) (w : World) (hn : xs.length = n) (hm : ys.length = m) (hn2 : n ≤ 1000000) (hm2 : m ≤ 1000000) (hA : RdF w A xs) (hB : RdF w B ys) :
    Calls Tryd.prog 27 #[.slice A n c, .slice B m d] w fun e w' => e = .returned (.bool (decide (xs = ys))) ∧ Below w.heap.size w w' := by
  by_cases hnm : (n : Int) = (m : Int)
  · obtain rfl : n = m := by omega
    have y0 : ((n : Int) == (n : Int)) = true := beq_iff_eq.2 rfl
    have y00 : ((n : Int) != (n : Int)) = false := by simp
    go_enter Tryd.func27, Tryd.ntmps27
    go_wp2
    go_loopw [5] (fun x5 wr => ∃ i : Nat, i ≤ n ∧ x5 = .int .i64 (i : Int) ∧ xs.take i = ys.take i ∧ St w None wr []) (fun x5 _ => n - (intOf x5).toNat)
    case atStart => exact ⟨0, Nat.zero_le _, rfl, rfl, St.begin w⟩
    case round =>
    obtain ⟨i, hi, rfl, heq, hs⟩ := hrel
    have HE := Lib.hid heq
    clear heq
    by_cases hlt : i < n
    · have z1 : decide ((i : Int) < (n : Int)) = true := decide_eq_true (by omega)
      obtain ⟨x, hx⟩ : ∃ x, xs[i]? = some x := ⟨xs[i]'(by omega), List.getElem?_eq_getElem _⟩
      obtain ⟨y, hy⟩ : ∃ y, ys[i]? = some y := ⟨ys[i]'(by omega), List.getElem?_eq_getElem _⟩
      obtain ⟨g, o, rfl, l1, c1, c2, c3⟩ := (hA.on hs.below) i x hx
      obtain ⟨g', o', rfl, l2, d1, d2, d3⟩ := (hB.on hs.below) i y hy
      have HX := Lib.hid hx
      have HY := Lib.hid hy
      have HS := Lib.hid hs
      clear hx hy hs
      obtain ⟨x1, x2, x3⟩ := x
      obtain ⟨y1, y2, y3⟩ := y
      dsimp only at c1 c2 c3 d1 d2 d3
      rcases beq3_all x1 x2 x3 y1 y2 y3 with hxy | ⟨hd, hxy⟩
      · injection hxy with q1 q23
        injection q23 with q2 q3
        subst q1; subst q2; subst q3
        have H2 := Lib.hid (show xs.take (i + 1) = ys.take (i + 1) by rw [List.take_add_one, List.take_add_one, HE.out, HX.out, HY.out])
        have y1 : (x1 == x1) = true := beq_iff_eq.2 rfl
        have y2 : (x2 == x2) = true := beq_iff_eq.2 rfl
        have y3 : (x3 == x3) = true := beq_iff_eq.2 rfl
        go_wp2_with fail
        go_region_held3 (fun W => W.cell? ⟨g, o + i * 3, none⟩ = some (.int .i64 x1) ∧ W.cell? ⟨g, o + i * 3 + 1, none⟩ = some (.int .i64 x2) ∧ W.cell? ⟨g, o + i * 3 + 2, none⟩ = some (.int .i64 x3) ∧ W.cell? ⟨g', o' + i * 3, none⟩ = some (.int .i64 x1) ∧ W.cell? ⟨g', o' + i * 3 + 1, none⟩ = some (.int .i64 x2) ∧ W.cell? ⟨g', o' + i * 3 + 2, none⟩ = some (.int .i64 x3)) (go_keep) (fail)
        all_goals
          go_wp2_with fail
          go_roundw
          case rel => exact ⟨i + 1, by omega, by go_num, H2.out, by first | exact HS.out | exact HS.out.drew | exact HS.out.drewN _⟩
          case measure => simp [intOf]; omega
      · have HN := Lib.hid (show ¬ xs = ys from fun e => hxy (by have := HX.out; rw [e, HY.out] at this; exact (Option.some.inj this).symm))
        rcases hd with h1 | ⟨h1, h2⟩ | ⟨h1, h2, h3⟩ <;> (
          go_wp2_with fail
          go_region_held3 (fun W => W.cell? ⟨g, o + i * 3, none⟩ = some (.int .i64 x1) ∧ W.cell? ⟨g, o + i * 3 + 1, none⟩ = some (.int .i64 x2) ∧ W.cell? ⟨g, o + i * 3 + 2, none⟩ = some (.int .i64 x3) ∧ W.cell? ⟨g', o' + i * 3, none⟩ = some (.int .i64 y1) ∧ W.cell? ⟨g', o' + i * 3 + 1, none⟩ = some (.int .i64 y2) ∧ W.cell? ⟨g', o' + i * 3 + 2, none⟩ = some (.int .i64 y3)) (go_keep) (fail)
          all_goals
            have hs := HS.out
            go_wp2_with fail
            go_ret
            exact ⟨by rw [decide_eq_false HN.out]; rfl, by first | exact hs.below | exact hs.drew.below | exact (hs.drewN _).below⟩)
    obtain rfl : i = n := by omega
    have z1 : decide ((i : Int) < (i : Int)) = false := decide_eq_false (by omega)
    have he : xs = ys := by
      have := HE.out
      rw [List.take_of_length_le (by omega), List.take_of_length_le (by omega)] at this; exact this
    have HN := Lib.hid he
    clear he
    go_wp2
    go_ret
    exact ⟨by rw [decide_eq_true HN.out]; rfl, hs.below⟩
  · have y0 : ((n : Int) == (m : Int)) = false := beq_eq_false_iff_ne.2 hnm
    have y00 : ((n : Int) != (m : Int)) = true := bne_iff_ne.2 hnm
    have HN := Lib.hid (show ¬ xs = ys from fun e => hnm (by rw [← hn, ← hm, e]))
    go_enter Tryd.func27, Tryd.ntmps27
    go_wp2
    go_ret
    exact ⟨by rw [decide_eq_false HN.out]; rfl, Below.refl _ _⟩
end Go.Proofs.YtlceanlenekanaaDoor
