/- Layer 21: are rows of texts the same? -/
import Derived.Test.YtgajcjacnnpfcaaDoorCalH
import Derived.Deep.RegionWith
import Derived.Deep.RegionHeld3
namespace Go.Proofs.YtgajcjacnnpfcaaDoor
open Go.RowKit
set_option linter.unusedVariables false
set_option maxRecDepth 100000
set_option maxHeartbeats 4000000
/-- The cells of a row of strings. -/
def RdT (w : World) (A : Option Addr) (us : List (List UInt8)) : Prop := ∀ i u, us[i]? = some u → ∃ g off, A = some ⟨g, off, none⟩ ∧ g < w.heap.size ∧ w.cell? ⟨g, off + i, none⟩ = some (.string ⟨u.toArray⟩)
theorem texts_o (A B : Option Addr) (n m c d : Nat) (us vs : List (List UInt8)) (w : World) (hn : us.length = n) (hm : vs.length = m) (hn2 : n ≤ 1000000) (hm2 : m ≤ 1000000) (hA : RdT w A us) (hB : RdT w B vs) :
    Calls Tryd.prog 15 #[.slice A n c, .slice B m d] w fun e w' => e = .returned (.bool (decide (us = vs))) ∧ Below w.heap.size w w' := by
  by_cases hnm : (n : Int) = (m : Int)
  · have y0 : ((n : Int) == (m : Int)) = true := beq_iff_eq.2 hnm
    obtain rfl : n = m := by omega
    have y0 : ((n : Int) == (n : Int)) = true := beq_iff_eq.2 rfl
    go_enter Tryd.func15, Tryd.ntmps15
    go_wp2
    go_loopw [5] (fun x3 wr => ∃ i : Nat, i ≤ n ∧ x3 = .int .i64 (i : Int) ∧ us.take i = vs.take i ∧ St w None wr []) (fun x3 _ => n - (intOf x3).toNat)
    case atStart => exact ⟨0, Nat.zero_le _, rfl, rfl, St.begin w⟩
    case round =>
    obtain ⟨i, hi, rfl, heq, hst⟩ := hrel
    have HE := Lib.hid heq
    clear heq
    by_cases hlt : i < n
    · have z1 : decide ((i : Int) < (n : Int)) = true := decide_eq_true (by omega)
      obtain ⟨u, hu⟩ : ∃ u, us[i]? = some u := ⟨us[i]'(by omega), List.getElem?_eq_getElem _⟩
      obtain ⟨v, hv⟩ : ∃ v, vs[i]? = some v := ⟨vs[i]'(by omega), List.getElem?_eq_getElem _⟩
      obtain ⟨g, o, rfl, l1, c1⟩ := hA i u hu
      rw [← hst.cell (p := ⟨g, o + i, none⟩) l1 (fun h => h)] at c1
      obtain ⟨g', o', rfl, l2, c2⟩ := hB i v hv
      rw [← hst.cell (p := ⟨g', o' + i, none⟩) l2 (fun h => h)] at c2
      have HU := Lib.hid hu
      have HV := Lib.hid hv
      clear hu hv
      by_cases huv : u = v
      · subst huv
        have H2 := Lib.hid (show us.take (i + 1) = vs.take (i + 1) by rw [List.take_add_one, List.take_add_one, HE.out, HU.out, HV.out])
        have HS := Lib.hid hst
        clear hst
        go_wp2_with fail
        go_region_held3 (fun W => W.cell? ⟨g, o + i, none⟩ = some (.string ⟨u.toArray⟩) ∧ W.cell? ⟨g', o' + i, none⟩ = some (.string ⟨u.toArray⟩)) (go_keep) (fail)
        all_goals
          go_wp2_with fail
          go_roundw
          case rel => exact ⟨i + 1, by omega, by go_num, H2.out, by first | exact HS.out | exact HS.out.drew | exact HS.out.drewN _⟩
          case measure => simp [intOf]; omega
      · have y1 : (u == v) = false := beq_false_of_ne huv
        have y2 : (u != v) = true := by simp [huv]
        have hne : us ≠ vs := fun e => huv (by have := HU.out; rw [e, HV.out] at this; exact (Option.some.inj this).symm)
        have HN := Lib.hid hne
        clear hne
        have HS := Lib.hid hst
        clear hst
        go_wp2_with fail
        go_region_held3 (fun W => W.cell? ⟨g, o + i, none⟩ = some (.string ⟨u.toArray⟩) ∧ W.cell? ⟨g', o' + i, none⟩ = some (.string ⟨v.toArray⟩)) (go_keep) (fail)
        all_goals
          have hst := HS.out
          go_wp2_with fail
          go_ret
          exact ⟨by rw [decide_eq_false HN.out]; rfl, by first | exact hst.below | exact hst.drew.below | exact (hst.drewN _).below⟩
    obtain rfl : i = n := by omega
    have z1 : decide ((i : Int) < (i : Int)) = false := decide_eq_false (by omega)
    have he : us = vs := by
      have := HE.out
      rw [List.take_of_length_le (by omega), List.take_of_length_le (by omega)] at this; exact this
    have HN := Lib.hid he
    clear he
    go_wp2
    go_ret
    exact ⟨by rw [decide_eq_true HN.out]; rfl, hst.below⟩
  · have y0 : ((n : Int) == (m : Int)) = false := beq_eq_false_iff_ne.2 hnm
    have HN := Lib.hid (show us ≠ vs from fun e => hnm (by rw [← hn, ← hm, e]))
    go_enter Tryd.func15, Tryd.ntmps15
    go_wp2
    go_ret
    exact ⟨by rw [decide_eq_false HN.out]; rfl, Below.refl _ _⟩
end Go.Proofs.YtgajcjacnnpfcaaDoor
