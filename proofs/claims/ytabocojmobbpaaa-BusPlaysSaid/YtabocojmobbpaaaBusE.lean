/- Layer 6: a bus: who is sought, stalled, has the slot. -/
import Derived.Test.YtabocojmobbpaaaBusD
import Derived.Deep.RegionWith
import Derived.Deep.DeepCutAuto
namespace Go.Proofs.Ytabocojmobbpaaa
open Go.RowKit
set_option linter.unusedVariables false
set_option maxRecDepth 100000
set_option maxHeartbeats 400000
section
variable {w0 w w' : World} {S0 : Nat → Prop} {L : List Res} {C : BC} {b g : Nat} {mp : Nat → Nat} {M now : Int} {s : BS} {k : Nat}
theorem bcl {x : Bool} {mk bb nb : Nat} (H : St w0 S0 w L) (k : Nat) (hk : L[k]? = some (BusR C b g mp now s)) (hC : C.OK) {i : Nat} (hi : i < C.n) (hnow : now < 4611686018427387904)
    (cm : w.cell? ⟨mk, i, none⟩ = some (.bool x)) (cb : w.cell? ⟨bb, 0, none⟩ = some (.pointer (some ⟨b, 0, none⟩))) (cn : w.cell? ⟨nb, 0, none⟩ = some (.int .u64 now)) :
    Calls Try.prog 28 #[.int .i64 i, .pointer (some ⟨mk, 0, none⟩), .pointer (some ⟨bb, 0, none⟩), .pointer (some ⟨nb, 0, none⟩)] w fun e w' => e = .returned (.bool (x && mayB C s.ws s.who s.row now i)) ∧ St w0 S0 w' L := by
  have hn := hC.n16
  have i0 : (0 : Int) ≤ (i : Int) := by omega
  have i1 : (i : Int) < 16 := by omega
  cases x with
  | false =>
    go_enter Try.func28, Try.ntmps28
    go_wp2_with fail
    go_ret
    exact ⟨rfl, H⟩
  | true =>
    go_enter Try.func28, Try.ntmps28
    go_wp2_with fail
    refine (bmay H k hk hC hi hnow).mono ?_
    rintro e w1 ⟨rfl, s1⟩
    go_wp2_with fail
    go_ret
    exact ⟨by rw [Bool.true_and]; rfl, s1⟩
theorem bfirst {q : Nat → Bool} {p1 p2 p3 : Value} (H : St w0 S0 w L) (k : Nat) (hk : L[k]? = some (BusR C b g mp now s)) (hC : C.OK)
    (hq : ∀ wr, St w0 S0 wr L → ∀ i, i < C.n → Calls Try.prog 28 #[.int .i64 i, p1, p2, p3] wr fun e w' => e = .returned (.bool (q i)) ∧ St w0 S0 w' L) :
    Calls Try.prog 27 #[.pointer (some ⟨b, 0, none⟩), .func (Fn.func 28) #[] #[p1, p2, p3]] w fun e w' => e = .returned (.int .i64 (fst q C.prio C.n)) ∧ St w0 S0 w' L := by
  obtain ⟨c0, c1, c2, c3⟩ := (bus_blk H k hk).four
  have hn := hC.n16
  have HQ := Lib.hid hq
  have HH := Lib.hid H
  clear hq H
  go_enter Try.func27, Try.ntmps27
  go_wp2_with fail
  go_loopw [5, 12] (fun f i wr => ∃ j : Nat, j ≤ C.n ∧ i = .int .i64 j ∧ f = .int .i64 (fst q C.prio j) ∧ St w0 S0 wr L) (fun _ i _ => C.n - (intOf i).toNat)
  case atStart => exact ⟨0, by omega, rfl, rfl, HH.out⟩
  case round =>
    clear c0 c1 c2 c3
    obtain ⟨j, hj, rfl, rfl, sr⟩ := hrel
    have hbd := fst_bd q C.prio j
    by_cases hlt : j < C.n
    · have SR := Lib.hid sr
      clear sr
      have f0 : ∀ u : Within (fun wr => St w0 S0 wr L), u.w.cell? ⟨b, 0, none⟩ = some (.slice (some ⟨g, 0, none⟩) C.n C.n) := fun u => (bus_blk u.h k hk).four.1
      have f1 : ∀ u : Within (fun wr => St w0 S0 wr L), u.w.cell? ⟨g, j * 6, none⟩ = some (.int .i64 (C.prio j)) := fun u => (bus_cells u.h k hk hlt).1
      haveI : Nonempty (Within (fun wr => St w0 S0 wr L)) := ⟨⟨_, SR.out⟩⟩
      have i0 : (0 : Int) ≤ (j : Int) := by omega
      have i1 : (j : Int) < (C.n : Int) := by omega
      cases hv : q j with
      | false =>
        have HF := Lib.hid (fst_no (q := q) (prio := C.prio) (k := j) (by rw [hv]; simp))
        have HC := Lib.hid (fun wr h => (HQ.out wr h j hlt).mono fun e w' (h : e = .returned (.bool (q j)) ∧ St w0 S0 w' L) => (⟨by rw [h.1, hv], h.2⟩ : e = .returned (.bool false) ∧ St w0 S0 w' L))
        generalize fst q C.prio j = r at *
        clear hv
        go_wp2_with fail
        refine wp_region_in (fun wr => St w0 S0 wr L) (by kernel_rfl) (by kernel_rfl) SR.out.drew ?_
        repeat (go_big_quiet_step ((go_at_call 28; exact in_call (p := fun wr => St w0 S0 wr L) (HC.out _ (Within.h (p := fun wr => St w0 S0 wr L) _)))))
        refine wpQuiet_nil ?_
        rintro _ ⟨⟨wq, sq⟩, rfl⟩
        go_wp2
        go_roundw
        case rel => exact ⟨j + 1, by omega, by go_num, by rw [HF.out], sq⟩
        case measure => simp [intOf]; omega
      | true =>
        have HC := Lib.hid (fun wr h => (HQ.out wr h j hlt).mono fun e w' (h : e = .returned (.bool (q j)) ∧ St w0 S0 w' L) => (⟨by rw [h.1, hv], h.2⟩ : e = .returned (.bool true) ∧ St w0 S0 w' L))
        by_cases hr : fst q C.prio j = -1
        · have HF := Lib.hid (fst_yes (q := q) (prio := C.prio) (k := j) hv (Or.inl hr))
          have d1 : (fst q C.prio j == -1) = true := beq_iff_eq.2 hr
          generalize fst q C.prio j = r at *
          clear hv hr
          go_wp2_with fail
          refine wp_region_in (fun wr => St w0 S0 wr L) (by kernel_rfl) (by kernel_rfl) SR.out.drew ?_
          repeat (go_big_quiet_step ((go_at_call 28; exact in_call (p := fun wr => St w0 S0 wr L) (HC.out _ (Within.h (p := fun wr => St w0 S0 wr L) _)))))
          refine wpQuiet_nil ?_
          rintro _ ⟨⟨wq, sq⟩, rfl⟩
          go_wp2
          go_roundw
          case rel => exact ⟨j + 1, by omega, by go_num, by rw [HF.out], sq⟩
          case measure => simp [intOf]; omega
        · obtain ⟨c, hc⟩ : ∃ c : Nat, fst q C.prio j = c := ⟨(fst q C.prio j).toNat, by omega⟩
          have hcn : c < C.n := by omega
          have f2 : ∀ u : Within (fun wr => St w0 S0 wr L), u.w.cell? ⟨g, c * 6, none⟩ = some (.int .i64 (C.prio c)) := fun u => (bus_cells u.h k hk hcn).1
          have i2 : (0 : Int) ≤ (c : Int) := by omega
          have i3 : (c : Int) < (C.n : Int) := by omega
          have d1 : ((c : Int) == -1) = false := beq_eq_false_iff_ne.2 (by omega)
          by_cases hp : C.prio j < C.prio c
          · have HF := Lib.hid (fst_yes (q := q) (prio := C.prio) (k := j) hv (Or.inr (by rw [hc]; simpa using hp)))
            have d2 : decide (C.prio j < C.prio c) = true := decide_eq_true hp
            rw [hc]
            clear hv hr hc hbd hp
            go_wp2_with fail
            refine wp_region_in (fun wr => St w0 S0 wr L) (by kernel_rfl) (by kernel_rfl) SR.out.drew ?_
            repeat (go_big_quiet_step ((go_at_call 28; exact in_call (p := fun wr => St w0 S0 wr L) (HC.out _ (Within.h (p := fun wr => St w0 S0 wr L) _)))))
            refine wpQuiet_nil ?_
            rintro _ ⟨⟨wq, sq⟩, rfl⟩
            go_wp2
            go_roundw
            case rel => exact ⟨j + 1, by omega, by go_num, by rw [HF.out], sq⟩
            case measure => simp [intOf]; omega
          · have HF := Lib.hid (fst_no (q := q) (prio := C.prio) (k := j) (by rw [hc]; rintro ⟨_, h | h⟩; omega; simp at h; omega))
            have HCC := Lib.hid hc
            have d2 : decide (C.prio j < C.prio c) = false := decide_eq_false hp
            rw [hc]
            clear hv hr hc hbd hp
            go_wp2_with fail
            refine wp_region_in (fun wr => St w0 S0 wr L) (by kernel_rfl) (by kernel_rfl) SR.out.drew ?_
            repeat (go_big_quiet_step ((go_at_call 28; exact in_call (p := fun wr => St w0 S0 wr L) (HC.out _ (Within.h (p := fun wr => St w0 S0 wr L) _)))))
            refine wpQuiet_nil ?_
            rintro _ ⟨⟨wq, sq⟩, rfl⟩
            go_wp2
            go_roundw
            case rel => exact ⟨j + 1, by omega, by go_num, by rw [HF.out, HCC.out], sq⟩
            case measure => simp [intOf]; omega
    · obtain rfl : j = C.n := by omega
      have SR := Lib.hid sr
      clear sr hbd
      go_wp2
      go_ret
      exact ⟨rfl, SR.out⟩
end
end Go.Proofs.Ytabocojmobbpaaa
