/- Layer 21: are commands the same? -/
import Derived.Test.YtgajcjacnnpfcaaDoorCalI
namespace Go.Proofs.YtgajcjacnnpfcaaDoor
open Go.RowKit
set_option linter.unusedVariables false
set_option maxRecDepth 100000
set_option maxHeartbeats 4000000
/-- The cells of a row of numbers. -/
def RdI (w : World) (A : Option Addr) (xs : List Int) : Prop := ∀ i x, xs[i]? = some x → ∃ g off, A = some ⟨g, off, none⟩ ∧ g < w.heap.size ∧ w.cell? ⟨g, off + i, none⟩ = some (.int .i64 x)
theorem same_o (s t : List UInt8) (A B : Option Addr) (n m c d : Nat) (xs ys : List Int) (w : World) (hn : xs.length = n) (hm : ys.length = m) (hn2 : n ≤ 1000000) (hm2 : m ≤ 1000000) (hA : RdI w A xs) (hB : RdI w B ys) :
    Calls Tryd.prog 18 #[.agg #[.string ⟨s.toArray⟩, .slice A n c], .agg #[.string ⟨t.toArray⟩, .slice B m d]] w fun e w' => e = .returned (.bool (decide (s = t ∧ xs = ys))) ∧ Below w.heap.size w w' := by
  have hb := ((St.begin w).box 25 #[.string ⟨s.toArray⟩, .slice A n c]).box 25 #[.string ⟨t.toArray⟩, .slice B m d]
  rw [show (w.alloc (.cells #[.string ⟨s.toArray⟩, .slice A n c] 25)).heap.size = w.heap.size + 1 by simp] at hb
  obtain ⟨p1, p2⟩ := (hb.blk 0 rfl).two
  obtain ⟨p3, p4⟩ := (hb.blk 1 rfl).two
  have HB := Lib.hid hb
  clear hb
  by_cases hst : s = t
  · subst hst
    have y1 : (s == s) = true := beq_self_eq_true s
    by_cases hnm : (n : Int) = (m : Int)
    · obtain rfl : n = m := by omega
      have y0 : ((n : Int) == (n : Int)) = true := beq_iff_eq.2 rfl
      go_enter Tryd.func18, Tryd.ntmps18
      go_wp2
      clear p1 p2 p3 p4
      go_loopw [5] (fun x5 wr => ∃ i : Nat, i ≤ n ∧ x5 = .int .i64 (i : Int) ∧ xs.take i = ys.take i ∧ St w None wr [BlkR w.heap.size 25 #[.string ⟨s.toArray⟩, .slice A n c], BlkR (w.heap.size + 1) 25 #[.string ⟨s.toArray⟩, .slice B n d]]) (fun x5 _ => n - (intOf x5).toNat)
      case atStart => exact ⟨0, Nat.zero_le _, rfl, rfl, HB.out⟩
      case round =>
      obtain ⟨i, hi, rfl, heq, hs⟩ := hrel
      obtain ⟨p1, p2⟩ := (hs.blk 0 rfl).two
      obtain ⟨p3, p4⟩ := (hs.blk 1 rfl).two
      have HE := Lib.hid heq
      clear heq
      by_cases hlt : i < n
      · have z1 : decide ((i : Int) < (n : Int)) = true := decide_eq_true (by omega)
        obtain ⟨x, hx⟩ : ∃ x, xs[i]? = some x := ⟨xs[i]'(by omega), List.getElem?_eq_getElem _⟩
        obtain ⟨y, hy⟩ : ∃ y, ys[i]? = some y := ⟨ys[i]'(by omega), List.getElem?_eq_getElem _⟩
        obtain ⟨g, o, rfl, l1, c1⟩ := hA i x hx
        rw [← hs.cell (p := ⟨g, o + i, none⟩) l1 (fun h => h)] at c1
        obtain ⟨g', o', rfl, l2, c2⟩ := hB i y hy
        rw [← hs.cell (p := ⟨g', o' + i, none⟩) l2 (fun h => h)] at c2
        have HX := Lib.hid hx
        have HY := Lib.hid hy
        have HS := Lib.hid hs
        clear hx hy hs
        by_cases hxy : x = y
        · subst hxy
          have H2 := Lib.hid (show xs.take (i + 1) = ys.take (i + 1) by rw [List.take_add_one, List.take_add_one, HE.out, HX.out, HY.out])
          have y2 : (x == x) = true := beq_iff_eq.2 rfl
          go_wp2_with fail
          go_region_held3 (fun W => W.cell? ⟨w.heap.size, 1, none⟩ = some (.slice (some ⟨g, o, none⟩) n c) ∧ W.cell? ⟨w.heap.size + 1, 1, none⟩ = some (.slice (some ⟨g', o', none⟩) n d) ∧ W.cell? ⟨g, o + i, none⟩ = some (.int .i64 x) ∧ W.cell? ⟨g', o' + i, none⟩ = some (.int .i64 x)) (go_keep) (fail)
          all_goals
            go_wp2_with fail
            go_roundw
            case rel => exact ⟨i + 1, by omega, by go_num, H2.out, by first | exact HS.out | exact HS.out.drew | exact HS.out.drewN _⟩
            case measure => simp [intOf]; omega
        · have y2 : (x == y) = false := beq_eq_false_iff_ne.2 hxy
          have HN := Lib.hid (show ¬ (s = s ∧ xs = ys) from fun e => hxy (by have := HX.out; rw [e.2, HY.out] at this; exact (Option.some.inj this).symm))
          go_wp2_with fail
          go_region_held3 (fun W => W.cell? ⟨w.heap.size, 1, none⟩ = some (.slice (some ⟨g, o, none⟩) n c) ∧ W.cell? ⟨w.heap.size + 1, 1, none⟩ = some (.slice (some ⟨g', o', none⟩) n d) ∧ W.cell? ⟨g, o + i, none⟩ = some (.int .i64 x) ∧ W.cell? ⟨g', o' + i, none⟩ = some (.int .i64 y)) (go_keep) (fail)
          all_goals
            have hs := HS.out
            go_wp2_with fail
            go_ret
            exact ⟨by first | (rw [decide_eq_false HN.out]; rfl) | (rw [decide_eq_false (fun e => HN.out ⟨by first | trivial | rfl, e⟩)]; rfl) | (rw [decide_eq_false (show ¬ xs = ys from fun e => hnm (by rw [← hn, ← hm, e]))]; rfl), by first | exact hs.below | exact hs.drew.below | exact (hs.drewN _).below⟩
      obtain rfl : i = n := by omega
      have z1 : decide ((i : Int) < (i : Int)) = false := decide_eq_false (by omega)
      have he : s = s ∧ xs = ys := ⟨rfl, by
        have := HE.out
        rw [List.take_of_length_le (by omega), List.take_of_length_le (by omega)] at this; exact this⟩
      have HN := Lib.hid he
      clear he
      go_wp2
      go_ret
      exact ⟨by first | (rw [decide_eq_true HN.out]; rfl) | (rw [decide_eq_true HN.out.2]; rfl), hs.below⟩
    · have y0 : ((n : Int) == (m : Int)) = false := beq_eq_false_iff_ne.2 hnm
      have HN := Lib.hid (show ¬ (s = s ∧ xs = ys) from fun e => hnm (by rw [← hn, ← hm, e.2]))
      go_enter Tryd.func18, Tryd.ntmps18
      go_wp2
      go_ret
      exact ⟨by first | (rw [decide_eq_false HN.out]; rfl) | (rw [decide_eq_false (fun e => HN.out ⟨by first | trivial | rfl, e⟩)]; rfl) | (rw [decide_eq_false (show ¬ xs = ys from fun e => hnm (by rw [← hn, ← hm, e]))]; rfl), HB.out.below⟩
  · have y1 : (s == t) = false := beq_false_of_ne hst
    have HN := Lib.hid (show ¬ (s = t ∧ xs = ys) from fun e => hst e.1)
    go_enter Tryd.func18, Tryd.ntmps18
    go_wp2
    go_ret
    exact ⟨by first | (rw [decide_eq_false HN.out]; rfl) | (rw [decide_eq_false (fun e => HN.out ⟨by first | trivial | rfl, e⟩)]; rfl) | (rw [decide_eq_false (show ¬ xs = ys from fun e => hnm (by rw [← hn, ← hm, e]))]; rfl), HB.out.below⟩
end Go.Proofs.YtgajcjacnnpfcaaDoor
