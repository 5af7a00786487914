/- Layer 17: whether tasks and loads may be a processor's. -/
import Derived.Test.YtdnonhhphkmlmaaCpuP
import Derived.Test.YtdnonhhphkmlmaaRtaC
namespace Go.Proofs.Ytdnonhhphkmlmaa
open Go.RowKit
set_option linter.unusedVariables false
set_option maxRecDepth 100000
set_option maxHeartbeats 1000000
theorem cMay_c (A : Option Addr) (n ca : Nat) (E : Option Addr) (m ce : Nat) (T : Nat → Wk) (x : Int) (w : World) (hT : Ts w A n T) (hn : n ≤ 9223372036854775807) (hmm : m ≤ 9223372036854775807) (x0 : 0 ≤ x)
    (EX : 0 < m → ∀ W, Below w.heap.size w W → Calls Try.prog 36 #[.slice E m ce, .int .u64 1] W fun e w' => e = .returned (.int .u64 x) ∧ Below W.heap.size W w')
    (b : Bool) (hb : b = decide (n ≤ 32 ∧ (∀ j, j < n → (T j).ok) ∧ (m = 0 ∨ 0 < x))) :
    Calls Try.prog 25 #[.slice A n ca, .slice E m ce] w fun e w' => e = .returned (.bool b) ∧ Below w.heap.size w w' := by
  have HT := Lib.hid hT
  have HEX := Lib.hid EX
  have HB := Lib.hid hb
  clear hT EX hb
  by_cases h0 : 32 < n
  · have d0 : decide (32 < (n : Int)) = true := decide_eq_true (by omega)
    have d0' : decide (32 < n) = true := decide_eq_true h0
    obtain rfl : b = false := by rw [HB.out]; exact decide_eq_false fun h => by omega
    go_enter Try.func25, Try.ntmps25
    go_wp2_with fail
    go_ret
    exact ⟨rfl, Below.refl _ _⟩
  have d0 : decide (32 < (n : Int)) = false := decide_eq_false (by omega)
  have d0' : decide (32 < n) = false := decide_eq_false h0
  go_enter Try.func25, Try.ntmps25
  go_wp2_with fail
  go_loopw [12, 6] (fun x12 x6 wr => ∃ k : Nat, k ≤ n ∧ x12 = .int .i64 k ∧ (∀ j, j < k → (T j).ok) ∧ Below w.heap.size w wr) (fun i _ _ => n - (intOf i).toNat)
  case atStart => exact ⟨0, by omega, rfl, fun j hj => by omega, Below.refl _ _⟩
  case round =>
  obtain ⟨k, hk, rfl, hok, hbl⟩ := hrel
  have OK := Lib.hid hok
  have BL := Lib.hid hbl
  clear hok hbl
  by_cases hlt : k < n
  · obtain ⟨g, off, rfl, c0, c1, c2, c3⟩ := HT.out.at_ BL.out hlt
    have z0 : decide ((k : Int) < (n : Int)) = true := decide_eq_true (by omega)
    have z0' : decide (k < n) = true := decide_eq_true hlt
    have hbx := Blk.new wr 52 #[.int .i64 (T k).prio, .int .u64 (T k).cost, .int .u64 (T k).per, .int .u64 (T k).dead]
    obtain ⟨r, hr⟩ : ∃ r, wr.heap.size = r := ⟨_, rfl⟩
    rw [hr] at hbx
    obtain ⟨q0, q1, q2, q3⟩ := hbx.four4
    have BL2 := Lib.hid (BL.out.alloc (by have := BL.out.size; omega) (.cells #[.int .i64 (T k).prio, .int .u64 (T k).cost, .int .u64 (T k).per, .int .u64 (T k).dead] 52))
    clear hbx
    go_upto_region 6 with (fail)
    generalize wr.alloc (.cells #[.int .i64 (T k).prio, .int .u64 (T k).cost, .int .u64 (T k).per, .int .u64 (T k).dead] 52) = wq at *
    clear c0 c1 c2 c3 hr
    have KO := Lib.hid (show (T k) = ⟨(T k).prio, (T k).cost, (T k).per, (T k).dead⟩ from rfl)
    by_cases hkk : (T k).ok
    · have MC := Lib.hid (fun W => wmay (T k).prio (T k).cost (T k).per (T k).dead W true (decide_eq_true hkk).symm)
      have OK2 := Lib.hid (show ∀ j, j < k + 1 → (T j).ok from fun j hj => by
        rcases Nat.lt_or_ge j k with h | h
        · exact OK.out j h
        · obtain rfl : j = k := by omega
          exact hkk)
      clear hkk
      go_wp2_with fail
      refine (MC.out _).mono ?_
      rintro e w2 ⟨rfl, hb2⟩
      have BL3 := Lib.hid (BL2.out.trans (hb2.mono (by have := BL2.out.size; omega)))
      clear hb2 MC
      go_wp2_with fail
      go_roundw
      case rel => exact ⟨k + 1, by omega, by go_num, OK2.out, BL3.out⟩
      case measure => simp [intOf]; omega
    · have MC := Lib.hid (fun W => wmay (T k).prio (T k).cost (T k).per (T k).dead W false (decide_eq_false hkk).symm)
      obtain rfl : b = false := by rw [HB.out]; exact decide_eq_false fun h => hkk (h.2.1 k hlt)
      clear hkk
      go_wp2_with fail
      refine (MC.out _).mono ?_
      rintro e w2 ⟨rfl, hb2⟩
      have BL3 := Lib.hid (BL2.out.trans (hb2.mono (by have := BL2.out.size; omega)))
      clear hb2 MC
      go_wp2_with fail
      go_ret
      exact ⟨rfl, BL3.out⟩
  · obtain rfl : k = n := by omega
    have z0 : decide ((k : Int) < (k : Int)) = false := decide_eq_false (by omega)
    rcases Nat.eq_zero_or_pos m with rfl | hm
    · obtain rfl : b = true := by rw [HB.out]; exact decide_eq_true ⟨by omega, OK.out, Or.inl rfl⟩
      clear hlt
      go_wp2_with fail
      go_ret
      exact ⟨rfl, BL.out⟩
    · have y1 : ((m : Int) == 0) = false := beq_eq_false_iff_ne.2 (by omega)
      have y1' : (m == 0) = false := beq_eq_false_iff_ne.2 (by omega)
      have EC := Lib.hid (HEX.out hm _ BL.out)
      have hbx : b = decide (0 < x) := by
        rw [HB.out]
        by_cases hx : 0 < x
        · rw [decide_eq_true hx]; exact decide_eq_true ⟨by omega, OK.out, Or.inr hx⟩
        · rw [decide_eq_false hx]; exact decide_eq_false fun h => by rcases h.2.2 with h | h <;> omega
      have y2 : decide (0 < x) = b := hbx.symm
      clear hlt hbx
      go_wp2_with fail
      refine EC.out.mono ?_
      rintro e w2 ⟨rfl, hb2⟩
      have BL3 := Lib.hid (BL.out.trans (hb2.mono (by have := BL.out.size; omega)))
      clear hb2 EC
      go_wp2_with fail
      go_ret
      exact ⟨rfl, BL3.out⟩
end Go.Proofs.Ytdnonhhphkmlmaa
