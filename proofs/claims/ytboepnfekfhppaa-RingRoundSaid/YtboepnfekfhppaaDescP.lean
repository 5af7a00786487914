/- Layer 9: the program's and the document's May; a descriptor's first byte. -/
import Derived.Test.YtboepnfekfhppaaDescM
import Derived.LoopTactic
import Derived.IntWalk
namespace Go.Proofs.Ytboepnfekfhppaa
open Go.RowKit
set_option linter.unusedVariables false
set_option maxRecDepth 100000
set_option maxHeartbeats 400000
theorem within_yes (n g : Int) (w : World) (h : 0 ≤ n ∧ n ≤ g) : Calls Try.prog 29 #[.int .i64 n, .int .i64 g] w fun e w' => e = .returned (.bool true) ∧ w = w' := by
  have d1 : decide (0 ≤ n) = true := decide_eq_true h.1
  have d2 : decide (n ≤ g) = true := decide_eq_true h.2
  go_enter Try.func29, Try.ntmps29
  go_wp2
  go_ret
  exact ⟨rfl, rfl⟩
theorem within_no (n g : Int) (w : World) (h : ¬ (0 ≤ n ∧ n ≤ g)) : Calls Try.prog 29 #[.int .i64 n, .int .i64 g] w fun e w' => e = .returned (.bool false) ∧ w = w' := by
  by_cases q : 0 ≤ n
  · have d1 : decide (0 ≤ n) = true := decide_eq_true q
    have d2 : decide (n ≤ g) = false := decide_eq_false (by omega)
    go_enter Try.func29, Try.ntmps29
    go_wp2
    go_ret
    exact ⟨rfl, rfl⟩
  · have d1 : decide (0 ≤ n) = false := decide_eq_false q
    go_enter Try.func29, Try.ntmps29
    go_wp2
    go_ret
    exact ⟨rfl, rfl⟩
theorem may_c (d : Dsc) (w : World) (hf : d.fits) (b : Bool) (hb : b = decide d.may) : Calls Try.prog 25 #[d.v] w fun e w' => e = .returned (.bool b) ∧ Below w.heap.size w w' := by
  obtain ⟨op, req, slot, gen, frm, len, dv, dn, st⟩ := d
  unfold Dsc.fits at hf
  unfold Dsc.v
  dsimp only at hf ⊢
  by_cases h1 : 0 ≤ op ∧ op ≤ 15
  · by_cases h2 : 0 ≤ req ∧ req ≤ 65535
    · by_cases h3 : 0 ≤ slot ∧ slot ≤ 65535
      · by_cases h4 : 0 ≤ gen ∧ gen < 4294967296
        · by_cases h5 : 0 ≤ frm ∧ frm ≤ 65535
          · by_cases h6 : 0 ≤ len ∧ len ≤ 65536
            · by_cases h7 : 0 ≤ st ∧ st ≤ 255
              · by_cases h8 : dn = true ∨ st = 0
                · obtain rfl : b = true := by rw [hb]; exact decide_eq_true ⟨h1, h2, h3, h4, h5, h6, h7, h8⟩
                  clear hb
                  cases dn with
                  | true =>
                    have d4 : decide (gen < 4294967296) = true := decide_eq_true (by omega)
                    go_enter Try.func25, Try.ntmps25
                    go_wp2_with (go_at_call 29; first | (refine (within_yes _ _ _ (by omega)).mono ?_; rintro e w1 ⟨rfl, rfl⟩) | (refine (within_no _ _ _ (by omega)).mono ?_; rintro e w1 ⟨rfl, rfl⟩))
                    go_ret
                    exact ⟨rfl, (Below.refl _ _).alloc (Nat.le_refl _) _⟩
                  | false =>
                    obtain rfl : st = 0 := by simpa using h8
                    have d4 : decide (gen < 4294967296) = true := decide_eq_true (by omega)
                    go_enter Try.func25, Try.ntmps25
                    go_wp2_with (go_at_call 29; first | (refine (within_yes _ _ _ (by omega)).mono ?_; rintro e w1 ⟨rfl, rfl⟩) | (refine (within_no _ _ _ (by omega)).mono ?_; rintro e w1 ⟨rfl, rfl⟩))
                    go_ret
                    exact ⟨rfl, (Below.refl _ _).alloc (Nat.le_refl _) _⟩
                · obtain rfl : b = false := by rw [hb]; exact decide_eq_false fun h => h8 h.2.2.2.2.2.2.2
                  clear hb
                  obtain ⟨rfl, h9⟩ : dn = false ∧ st ≠ 0 := by simpa using h8
                  have d9 : (st == 0) = false := beq_eq_false_iff_ne.2 h9
                  have d4 : decide (gen < 4294967296) = true := decide_eq_true (by omega)
                  go_enter Try.func25, Try.ntmps25
                  go_wp2_with (go_at_call 29; first | (refine (within_yes _ _ _ (by omega)).mono ?_; rintro e w1 ⟨rfl, rfl⟩) | (refine (within_no _ _ _ (by omega)).mono ?_; rintro e w1 ⟨rfl, rfl⟩))
                  go_ret
                  exact ⟨rfl, (Below.refl _ _).alloc (Nat.le_refl _) _⟩
              · obtain rfl : b = false := by rw [hb]; exact decide_eq_false fun h => h7 h.2.2.2.2.2.2.1
                clear hb
                have d4 : decide (gen < 4294967296) = true := decide_eq_true (by omega)
                go_enter Try.func25, Try.ntmps25
                go_wp2_with (go_at_call 29; first | (refine (within_yes _ _ _ (by omega)).mono ?_; rintro e w1 ⟨rfl, rfl⟩) | (refine (within_no _ _ _ (by omega)).mono ?_; rintro e w1 ⟨rfl, rfl⟩))
                go_ret
                exact ⟨rfl, (Below.refl _ _).alloc (Nat.le_refl _) _⟩
            · obtain rfl : b = false := by rw [hb]; exact decide_eq_false fun h => h6 h.2.2.2.2.2.1
              clear hb
              have d4 : decide (gen < 4294967296) = true := decide_eq_true (by omega)
              go_enter Try.func25, Try.ntmps25
              go_wp2_with (go_at_call 29; first | (refine (within_yes _ _ _ (by omega)).mono ?_; rintro e w1 ⟨rfl, rfl⟩) | (refine (within_no _ _ _ (by omega)).mono ?_; rintro e w1 ⟨rfl, rfl⟩))
              go_ret
              exact ⟨rfl, (Below.refl _ _).alloc (Nat.le_refl _) _⟩
          · obtain rfl : b = false := by rw [hb]; exact decide_eq_false fun h => h5 h.2.2.2.2.1
            clear hb
            have d4 : decide (gen < 4294967296) = true := decide_eq_true (by omega)
            go_enter Try.func25, Try.ntmps25
            go_wp2_with (go_at_call 29; first | (refine (within_yes _ _ _ (by omega)).mono ?_; rintro e w1 ⟨rfl, rfl⟩) | (refine (within_no _ _ _ (by omega)).mono ?_; rintro e w1 ⟨rfl, rfl⟩))
            go_ret
            exact ⟨rfl, (Below.refl _ _).alloc (Nat.le_refl _) _⟩
        · obtain rfl : b = false := by rw [hb]; exact decide_eq_false fun h => h4 h.2.2.2.1
          clear hb
          have d4 : decide (gen < 4294967296) = false := decide_eq_false (by omega)
          go_enter Try.func25, Try.ntmps25
          go_wp2_with (go_at_call 29; first | (refine (within_yes _ _ _ (by omega)).mono ?_; rintro e w1 ⟨rfl, rfl⟩) | (refine (within_no _ _ _ (by omega)).mono ?_; rintro e w1 ⟨rfl, rfl⟩))
          go_ret
          exact ⟨rfl, (Below.refl _ _).alloc (Nat.le_refl _) _⟩
      · obtain rfl : b = false := by rw [hb]; exact decide_eq_false fun h => h3 h.2.2.1
        clear hb
        go_enter Try.func25, Try.ntmps25
        go_wp2_with (go_at_call 29; first | (refine (within_yes _ _ _ (by omega)).mono ?_; rintro e w1 ⟨rfl, rfl⟩) | (refine (within_no _ _ _ (by omega)).mono ?_; rintro e w1 ⟨rfl, rfl⟩))
        go_ret
        exact ⟨rfl, (Below.refl _ _).alloc (Nat.le_refl _) _⟩
    · obtain rfl : b = false := by rw [hb]; exact decide_eq_false fun h => h2 h.2.1
      clear hb
      go_enter Try.func25, Try.ntmps25
      go_wp2_with (go_at_call 29; first | (refine (within_yes _ _ _ (by omega)).mono ?_; rintro e w1 ⟨rfl, rfl⟩) | (refine (within_no _ _ _ (by omega)).mono ?_; rintro e w1 ⟨rfl, rfl⟩))
      go_ret
      exact ⟨rfl, (Below.refl _ _).alloc (Nat.le_refl _) _⟩
  · obtain rfl : b = false := by rw [hb]; exact decide_eq_false fun h => h1 h.1
    clear hb
    go_enter Try.func25, Try.ntmps25
    go_wp2_with (go_at_call 29; first | (refine (within_yes _ _ _ (by omega)).mono ?_; rintro e w1 ⟨rfl, rfl⟩) | (refine (within_no _ _ _ (by omega)).mono ?_; rintro e w1 ⟨rfl, rfl⟩))
    go_ret
    exact ⟨rfl, (Below.refl _ _).alloc (Nat.le_refl _) _⟩
theorem rmay_c (d : Dsc) (w : World) (hf : d.fits) (b : Bool) (hb : b = decide d.may) : Calls Try.prog 27 #[d.v] w fun e w' => e = .returned (.bool b) ∧ Below w.heap.size w w' := by
  obtain ⟨op, req, slot, gen, frm, len, dv, dn, st⟩ := d
  unfold Dsc.fits at hf
  unfold Dsc.v
  dsimp only at hf ⊢
  by_cases h1 : 0 ≤ op ∧ op ≤ 15
  · by_cases h2 : 0 ≤ req ∧ req ≤ 65535
    · by_cases h3 : 0 ≤ slot ∧ slot ≤ 65535
      · by_cases h4 : 0 ≤ gen ∧ gen < 4294967296
        · by_cases h5 : 0 ≤ frm ∧ frm ≤ 65535
          · by_cases h6 : 0 ≤ len ∧ len ≤ 65536
            · by_cases h7 : 0 ≤ st ∧ st ≤ 255
              · by_cases h8 : dn = true ∨ st = 0
                · obtain rfl : b = true := by rw [hb]; exact decide_eq_true ⟨h1, h2, h3, h4, h5, h6, h7, h8⟩
                  clear hb
                  cases dn with
                  | true =>
                    have a1 : decide (op < 0) = false := by simp; omega
                    have b1 : decide (15 < op) = false := by simp; omega
                    have a2 : decide (req < 0) = false := by simp; omega
                    have b2 : decide (65535 < req) = false := by simp; omega
                    have a3 : decide (slot < 0) = false := by simp; omega
                    have b3 : decide (65535 < slot) = false := by simp; omega
                    have a4 : decide (4294967295 < gen) = false := by simp; omega
                    have a5 : decide (frm < 0) = false := by simp; omega
                    have b5 : decide (65535 < frm) = false := by simp; omega
                    have a6 : decide (len < 0) = false := by simp; omega
                    have b6 : decide (65536 < len) = false := by simp; omega
                    have a7 : decide (st < 0) = false := by simp; omega
                    have b7 : decide (255 < st) = false := by simp; omega
                    go_enter Try.func27, Try.ntmps27
                    go_wp2_with fail
                    all_goals
                      go_ret
                      exact ⟨rfl, (Below.refl _ _).alloc (Nat.le_refl _) _⟩
                  | false =>
                    obtain rfl : st = 0 := by simpa using h8
                    have a1 : decide (op < 0) = false := by simp; omega
                    have b1 : decide (15 < op) = false := by simp; omega
                    have a2 : decide (req < 0) = false := by simp; omega
                    have b2 : decide (65535 < req) = false := by simp; omega
                    have a3 : decide (slot < 0) = false := by simp; omega
                    have b3 : decide (65535 < slot) = false := by simp; omega
                    have a4 : decide (4294967295 < gen) = false := by simp; omega
                    have a5 : decide (frm < 0) = false := by simp; omega
                    have b5 : decide (65535 < frm) = false := by simp; omega
                    have a6 : decide (len < 0) = false := by simp; omega
                    have b6 : decide (65536 < len) = false := by simp; omega
                    go_enter Try.func27, Try.ntmps27
                    go_wp2_with fail
                    go_ret
                    exact ⟨rfl, (Below.refl _ _).alloc (Nat.le_refl _) _⟩
                · obtain rfl : b = false := by rw [hb]; exact decide_eq_false fun h => h8 h.2.2.2.2.2.2.2
                  clear hb
                  obtain ⟨rfl, h9⟩ : dn = false ∧ st ≠ 0 := by simpa using h8
                  have d9 : (st == 0) = false := beq_eq_false_iff_ne.2 h9
                  have a1 : decide (op < 0) = false := by simp; omega
                  have b1 : decide (15 < op) = false := by simp; omega
                  have a2 : decide (req < 0) = false := by simp; omega
                  have b2 : decide (65535 < req) = false := by simp; omega
                  have a3 : decide (slot < 0) = false := by simp; omega
                  have b3 : decide (65535 < slot) = false := by simp; omega
                  have a4 : decide (4294967295 < gen) = false := by simp; omega
                  have a5 : decide (frm < 0) = false := by simp; omega
                  have b5 : decide (65535 < frm) = false := by simp; omega
                  have a6 : decide (len < 0) = false := by simp; omega
                  have b6 : decide (65536 < len) = false := by simp; omega
                  have a7 : decide (st < 0) = false := by simp; omega
                  have b7 : decide (255 < st) = false := by simp; omega
                  go_enter Try.func27, Try.ntmps27
                  go_wp2_with fail
                  go_ret
                  exact ⟨rfl, (Below.refl _ _).alloc (Nat.le_refl _) _⟩
              · obtain rfl : b = false := by rw [hb]; exact decide_eq_false fun h => h7 h.2.2.2.2.2.2.1
                clear hb
                have a1 : decide (op < 0) = false := by simp; omega
                have b1 : decide (15 < op) = false := by simp; omega
                have a2 : decide (req < 0) = false := by simp; omega
                have b2 : decide (65535 < req) = false := by simp; omega
                have a3 : decide (slot < 0) = false := by simp; omega
                have b3 : decide (65535 < slot) = false := by simp; omega
                have a4 : decide (4294967295 < gen) = false := by simp; omega
                have a5 : decide (frm < 0) = false := by simp; omega
                have b5 : decide (65535 < frm) = false := by simp; omega
                have a6 : decide (len < 0) = false := by simp; omega
                have b6 : decide (65536 < len) = false := by simp; omega
                by_cases q : st < 0
                · have qa : decide (st < 0) = true := decide_eq_true q
                  go_enter Try.func27, Try.ntmps27
                  go_wp2_with fail
                  go_ret
                  exact ⟨rfl, (Below.refl _ _).alloc (Nat.le_refl _) _⟩
                · have qa : decide (st < 0) = false := decide_eq_false q
                  have qb : decide (255 < st) = true := by simp; omega
                  go_enter Try.func27, Try.ntmps27
                  go_wp2_with fail
                  go_ret
                  exact ⟨rfl, (Below.refl _ _).alloc (Nat.le_refl _) _⟩
            · obtain rfl : b = false := by rw [hb]; exact decide_eq_false fun h => h6 h.2.2.2.2.2.1
              clear hb
              have a1 : decide (op < 0) = false := by simp; omega
              have b1 : decide (15 < op) = false := by simp; omega
              have a2 : decide (req < 0) = false := by simp; omega
              have b2 : decide (65535 < req) = false := by simp; omega
              have a3 : decide (slot < 0) = false := by simp; omega
              have b3 : decide (65535 < slot) = false := by simp; omega
              have a4 : decide (4294967295 < gen) = false := by simp; omega
              have a5 : decide (frm < 0) = false := by simp; omega
              have b5 : decide (65535 < frm) = false := by simp; omega
              by_cases q : len < 0
              · have qa : decide (len < 0) = true := decide_eq_true q
                go_enter Try.func27, Try.ntmps27
                go_wp2_with fail
                go_ret
                exact ⟨rfl, (Below.refl _ _).alloc (Nat.le_refl _) _⟩
              · have qa : decide (len < 0) = false := decide_eq_false q
                have qb : decide (65536 < len) = true := by simp; omega
                go_enter Try.func27, Try.ntmps27
                go_wp2_with fail
                go_ret
                exact ⟨rfl, (Below.refl _ _).alloc (Nat.le_refl _) _⟩
          · obtain rfl : b = false := by rw [hb]; exact decide_eq_false fun h => h5 h.2.2.2.2.1
            clear hb
            have a1 : decide (op < 0) = false := by simp; omega
            have b1 : decide (15 < op) = false := by simp; omega
            have a2 : decide (req < 0) = false := by simp; omega
            have b2 : decide (65535 < req) = false := by simp; omega
            have a3 : decide (slot < 0) = false := by simp; omega
            have b3 : decide (65535 < slot) = false := by simp; omega
            have a4 : decide (4294967295 < gen) = false := by simp; omega
            by_cases q : frm < 0
            · have qa : decide (frm < 0) = true := decide_eq_true q
              go_enter Try.func27, Try.ntmps27
              go_wp2_with fail
              go_ret
              exact ⟨rfl, (Below.refl _ _).alloc (Nat.le_refl _) _⟩
            · have qa : decide (frm < 0) = false := decide_eq_false q
              have qb : decide (65535 < frm) = true := by simp; omega
              go_enter Try.func27, Try.ntmps27
              go_wp2_with fail
              go_ret
              exact ⟨rfl, (Below.refl _ _).alloc (Nat.le_refl _) _⟩
        · obtain rfl : b = false := by rw [hb]; exact decide_eq_false fun h => h4 h.2.2.2.1
          clear hb
          have a1 : decide (op < 0) = false := by simp; omega
          have b1 : decide (15 < op) = false := by simp; omega
          have a2 : decide (req < 0) = false := by simp; omega
          have b2 : decide (65535 < req) = false := by simp; omega
          have a3 : decide (slot < 0) = false := by simp; omega
          have b3 : decide (65535 < slot) = false := by simp; omega
          have a4 : decide (4294967295 < gen) = true := by simp; omega
          go_enter Try.func27, Try.ntmps27
          go_wp2_with fail
          go_ret
          exact ⟨rfl, (Below.refl _ _).alloc (Nat.le_refl _) _⟩
      · obtain rfl : b = false := by rw [hb]; exact decide_eq_false fun h => h3 h.2.2.1
        clear hb
        have a1 : decide (op < 0) = false := by simp; omega
        have b1 : decide (15 < op) = false := by simp; omega
        have a2 : decide (req < 0) = false := by simp; omega
        have b2 : decide (65535 < req) = false := by simp; omega
        by_cases q : slot < 0
        · have qa : decide (slot < 0) = true := decide_eq_true q
          go_enter Try.func27, Try.ntmps27
          go_wp2_with fail
          go_ret
          exact ⟨rfl, (Below.refl _ _).alloc (Nat.le_refl _) _⟩
        · have qa : decide (slot < 0) = false := decide_eq_false q
          have qb : decide (65535 < slot) = true := by simp; omega
          go_enter Try.func27, Try.ntmps27
          go_wp2_with fail
          go_ret
          exact ⟨rfl, (Below.refl _ _).alloc (Nat.le_refl _) _⟩
    · obtain rfl : b = false := by rw [hb]; exact decide_eq_false fun h => h2 h.2.1
      clear hb
      have a1 : decide (op < 0) = false := by simp; omega
      have b1 : decide (15 < op) = false := by simp; omega
      by_cases q : req < 0
      · have qa : decide (req < 0) = true := decide_eq_true q
        go_enter Try.func27, Try.ntmps27
        go_wp2_with fail
        go_ret
        exact ⟨rfl, (Below.refl _ _).alloc (Nat.le_refl _) _⟩
      · have qa : decide (req < 0) = false := decide_eq_false q
        have qb : decide (65535 < req) = true := by simp; omega
        go_enter Try.func27, Try.ntmps27
        go_wp2_with fail
        go_ret
        exact ⟨rfl, (Below.refl _ _).alloc (Nat.le_refl _) _⟩
  · obtain rfl : b = false := by rw [hb]; exact decide_eq_false fun h => h1 h.1
    clear hb
    by_cases q : op < 0
    · have qa : decide (op < 0) = true := decide_eq_true q
      go_enter Try.func27, Try.ntmps27
      go_wp2_with fail
      go_ret
      exact ⟨rfl, (Below.refl _ _).alloc (Nat.le_refl _) _⟩
    · have qa : decide (op < 0) = false := decide_eq_false q
      have qb : decide (15 < op) = true := by simp; omega
      go_enter Try.func27, Try.ntmps27
      go_wp2_with fail
      go_ret
      exact ⟨rfl, (Below.refl _ _).alloc (Nat.le_refl _) _⟩
end Go.Proofs.Ytboepnfekfhppaa
