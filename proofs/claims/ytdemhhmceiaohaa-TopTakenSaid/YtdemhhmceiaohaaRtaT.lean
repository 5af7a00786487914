/- Layer 16: tasks and loads that may be; who runs ahead; what they take. -/
import Derived.Test.YtdemhhmceiaohaaRtaC
namespace Go.Proofs.Ytdemhhmceiaohaa
open Go.RowKit
set_option linter.unusedVariables false
set_option maxRecDepth 100000
set_option maxHeartbeats 1000000
def TOK (n : Nat) (T : Nat → Wk) : Prop := n ≤ 32 ∧ ∀ j, j < n → (T j).ok
instance (n : Nat) (T : Nat → Wk) : Decidable (TOK n T) := by unfold TOK; infer_instance
def LOK (n : Nat) (S : Nat → Ld) : Prop := n ≤ 16 ∧ ∀ j, j < n → (S j).ok
instance (n : Nat) (S : Nat → Ld) : Decidable (LOK n S) := by unfold LOK; infer_instance
def Typed (n : Nat) (T : Nat → Wk) : Prop := ∀ j, j < n → (T j).typed
def LTyped (n : Nat) (S : Nat → Ld) : Prop := ∀ j, j < n → (S j).typed
section
variable {w0 w : World} {A B : Option Addr} {n m cap capB : Nat} {T : Nat → Wk} {S : Nat → Ld}
theorem smay_c (rd : Ls w A n S) (ht : LTyped n S) (hn : n ≤ maxLen) (b : Bool) (hb : b = decide (LOK n S)) :
    Calls Try.prog 32 #[.slice A n cap] w fun e w' => e = .returned (.bool b) ∧ Below w.heap.size w w' := by
  unfold maxLen at hn
  have HB := Lib.hid hb
  clear hb
  go_enter Try.func32, Try.ntmps32
  go_wp2_with fail
  go_loopw [7] (fun i wr => ∃ k : Nat, k ≤ n ∧ i = .int .i64 k ∧ (∀ j, j < k → (S j).ok) ∧ (0 < k → n ≤ 16) ∧ Below w.heap.size w wr) (fun i _ => n - (intOf i).toNat)
  case atStart => exact ⟨0, by omega, rfl, (fun j hj => absurd hj (by omega)), (fun h => absurd h (by omega)), Below.refl _ _⟩
  case round =>
    obtain ⟨k, hk, rfl, hok, h32, hbl⟩ := hrel
    by_cases hlt : k < n
    · obtain ⟨ib, off, rfl, e0, e1⟩ := rd.at_ hbl hlt
      have HOK := Lib.hid hok
      have BL := Lib.hid hbl
      obtain ⟨t1, t2⟩ := ht k hlt
      obtain ⟨x, hx⟩ : ∃ x, S k = x := ⟨_, rfl⟩
      rw [hx] at e0 e1 t1 t2
      have HX := Lib.hid hx
      obtain ⟨p, r⟩ := x
      dsimp only at e0 e1 t1 t2
      obtain ⟨c0, c1⟩ := (Blk.new wr 47 (Ld.cells ⟨p, r⟩)).two
      clear hok hbl hx rd h32 ht
      by_cases h32 : n ≤ 16
      · have d0 : decide (16 < (n : Int)) = false := decide_eq_false (by omega)
        have d0' : decide (16 < n) = false := decide_eq_false (by omega)
        by_cases hw : 1 ≤ p ∧ p ≤ 200 ∧ p ≤ r ∧ r ≤ 1099511627776
        · have MC := Lib.hid (lmay p r t2 (wr.alloc (.cells (Ld.cells ⟨p, r⟩) 47)) true (decide_eq_true hw).symm)
          by_cases hr : r ≤ 1073741824
          · have z1 : decide (1073741824 < r) = false := decide_eq_false (by omega)
            have HW := Lib.hid (show Ld.ok ⟨p, r⟩ from ⟨hw.1, hw.2.1, hw.2.2.1, hr⟩)
            clear hw hr t1 t2
            go_wp2_with fail
            refine MC.out.mono ?_
            rintro e w2 ⟨rfl, hw2⟩
            have c4 := (boxed_blk hw2).two.2
            clear c0 c1
            go_wp2_with fail
            go_roundw
            case rel =>
              refine ⟨k + 1, by omega, by go_num, (fun j hj => ?_), (fun _ => h32), below_then BL.out (below_box hw2)⟩
              by_cases e : j = k
              · rw [e, HX.out]; exact HW.out
              · exact HOK.out j (by omega)
            case measure => simp [intOf]; omega
          · have z1 : decide (1073741824 < r) = true := decide_eq_true (by omega)
            obtain rfl : b = false := by
              rw [HB.out]; exact decide_eq_false fun h => hr (by have := h.2 k hlt; rw [HX.out] at this; exact this.2.2.2)
            clear hw hr t1 t2
            go_wp2_with fail
            refine MC.out.mono ?_
            rintro e w2 ⟨rfl, hw2⟩
            have c4 := (boxed_blk hw2).two.2
            clear c0 c1
            go_wp2_with fail
            go_ret
            exact ⟨rfl, below_then BL.out (below_box hw2)⟩
        · have MC := Lib.hid (lmay p r t2 (wr.alloc (.cells (Ld.cells ⟨p, r⟩) 47)) false (decide_eq_false hw).symm)
          obtain rfl : b = false := by
            rw [HB.out]; exact decide_eq_false fun h => hw (by have := h.2 k hlt; rw [HX.out] at this; obtain ⟨a1, a2, a3, a4⟩ := this; dsimp only at a1 a2 a3 a4; omega)
          clear hw t1 t2
          go_wp2_with fail
          refine MC.out.mono ?_
          rintro e w2 ⟨rfl, hw2⟩
          go_wp2_with fail
          go_ret
          exact ⟨rfl, below_then BL.out (below_box hw2)⟩
      · have d0 : decide (16 < (n : Int)) = true := decide_eq_true (by omega)
        have d0' : decide (16 < n) = true := decide_eq_true (by omega)
        obtain rfl : b = false := by rw [HB.out]; exact decide_eq_false fun h => h32 h.1
        go_wp2_with fail
        go_ret
        exact ⟨rfl, BL.out.alloc BL.out.size _⟩
    · obtain rfl : k = n := by omega
      obtain rfl : b = true := by rw [HB.out]; exact decide_eq_true ⟨(Nat.eq_zero_or_pos k).elim (fun e => by omega) h32, hok⟩
      clear hok h32
      go_wp2_with fail
      go_ret
      exact ⟨rfl, hbl⟩
theorem rtmay_c (rd : Ts w A n T) (hn : n ≤ maxLen) (b : Bool) (hb : b = decide (TOK n T)) :
    Calls Try.prog 35 #[.slice A n cap] w fun e w' => e = .returned (.bool b) ∧ Below w.heap.size w w' := by
  unfold maxLen at hn
  have HB := Lib.hid hb
  clear hb
  go_enter Try.func35, Try.ntmps35
  go_wp2_with fail
  go_loopw [3] (fun i wr => ∃ k : Nat, k ≤ n ∧ i = .int .i64 k ∧ (∀ j, j < k → (T j).ok) ∧ Below w.heap.size w wr) (fun i _ => n - (intOf i).toNat)
  case atStart => exact ⟨0, by omega, rfl, (fun j hj => absurd hj (by omega)), Below.refl _ _⟩
  case round =>
    obtain ⟨k, hk, rfl, hok, hbl⟩ := hrel
    by_cases hlt : k < n
    · obtain ⟨ib, off, rfl, e0, e1, e2, e3⟩ := rd.at_ hbl hlt
      have HOK := Lib.hid hok
      have BL := Lib.hid hbl
      obtain ⟨x, hx⟩ : ∃ x, T k = x := ⟨_, rfl⟩
      rw [hx] at e0 e1 e2 e3
      have HX := Lib.hid hx
      obtain ⟨p, c, r, d⟩ := x
      dsimp only at e0 e1 e2 e3
      clear hok hbl hx rd
      by_cases hw : Wk.ok ⟨p, c, r, d⟩
      · have MC := Lib.hid (rwmay p c r d wr true (decide_eq_true hw).symm)
        have HW := Lib.hid hw
        clear hw
        go_wp2_with fail
        refine MC.out.mono ?_
        rintro e w2 ⟨rfl, hw2⟩
        go_wp2_with fail
        go_roundw
        case rel =>
          refine ⟨k + 1, by omega, by go_num, (fun j hj => ?_), below_then BL.out hw2⟩
          by_cases e : j = k
          · rw [e, HX.out]; exact HW.out
          · exact HOK.out j (by omega)
        case measure => simp [intOf]; omega
      · have MC := Lib.hid (rwmay p c r d wr false (decide_eq_false hw).symm)
        obtain rfl : b = false := by
          rw [HB.out]; exact decide_eq_false fun h => hw (by rw [← HX.out]; exact h.2 k hlt)
        clear hw
        go_wp2_with fail
        refine MC.out.mono ?_
        rintro e w2 ⟨rfl, hw2⟩
        go_wp2_with fail
        go_ret
        exact ⟨rfl, below_then BL.out hw2⟩
    · obtain rfl : k = n := by omega
      have HOK := Lib.hid hok
      clear hok
      by_cases h32 : k ≤ 32
      · have d0 : decide ((k : Int) ≤ 32) = true := decide_eq_true (by omega)
        have d0' : decide (k ≤ 32) = true := decide_eq_true h32
        obtain rfl : b = true := by rw [HB.out]; exact decide_eq_true ⟨h32, HOK.out⟩
        go_wp2_with fail
        go_ret
        exact ⟨rfl, hbl⟩
      · have d0 : decide ((k : Int) ≤ 32) = false := decide_eq_false (by omega)
        have d0' : decide (k ≤ 32) = false := decide_eq_false h32
        obtain rfl : b = false := by rw [HB.out]; exact decide_eq_false fun h => h32 h.1
        go_wp2_with fail
        go_ret
        exact ⟨rfl, hbl⟩
theorem rsmay_c (rd : Ls w A n S) (ht : LTyped n S) (hn : n ≤ maxLen) (b : Bool) (hb : b = decide (LOK n S)) :
    Calls Try.prog 7 #[.slice A n cap] w fun e w' => e = .returned (.bool b) ∧ Below w.heap.size w w' := by
  unfold maxLen at hn
  have HB := Lib.hid hb
  clear hb
  go_enter Try.func7, Try.ntmps7
  go_wp2_with fail
  go_loopw [3] (fun i wr => ∃ k : Nat, k ≤ n ∧ i = .int .i64 k ∧ (∀ j, j < k → (S j).ok) ∧ Below w.heap.size w wr) (fun i _ => n - (intOf i).toNat)
  case atStart => exact ⟨0, by omega, rfl, (fun j hj => absurd hj (by omega)), Below.refl _ _⟩
  case round =>
    obtain ⟨k, hk, rfl, hok, hbl⟩ := hrel
    by_cases hlt : k < n
    · obtain ⟨ib, off, hA, e0, e1⟩ := rd.at_ hbl hlt
      have E1 := Lib.hid (fun w2 (hb : Below w.heap.size w w2) => rd.at_ hb hlt)
      have HOK := Lib.hid hok
      have BL := Lib.hid hbl
      obtain ⟨t1, t2⟩ := ht k hlt
      have HA := Lib.hid hA
      subst hA
      obtain ⟨x, hx⟩ : ∃ x, S k = x := ⟨_, rfl⟩
      rw [hx] at e0 e1 t1 t2
      have HX := Lib.hid hx
      obtain ⟨p, r⟩ := x
      dsimp only at e0 e1 t1 t2
      have after : ∀ w2, Below wr.heap.size wr w2 → w2.cell? ⟨ib, off + k * 2 + 1, none⟩ = some (.int .u64 r) := fun w2 h => by
        obtain ⟨ib', off', ha, -, f1⟩ := E1.out w2 (below_then BL.out h)
        injection ha with ha
        injection ha with ha1 ha2
        subst ha1 ha2
        rw [HX.out] at f1
        exact f1
      have AF := Lib.hid after
      clear hok hbl hx rd ht after E1
      by_cases hw : 1 ≤ p ∧ p ≤ 200 ∧ p ≤ r ∧ r ≤ 1099511627776
      · have MC := Lib.hid (rlmay p r t2 wr true (decide_eq_true hw).symm)
        by_cases hr : r ≤ 1073741824
        · have z1 : decide (1073741824 < r) = false := decide_eq_false (by omega)
          have HW := Lib.hid (show Ld.ok ⟨p, r⟩ from ⟨hw.1, hw.2.1, hw.2.2.1, hr⟩)
          clear hw hr t1 t2
          go_wp2_with fail
          refine MC.out.mono ?_
          rintro e w2 ⟨rfl, hw2⟩
          have c4 := AF.out w2 hw2
          clear e0 e1
          go_wp2_with fail
          go_roundw
          case rel =>
            refine ⟨k + 1, by omega, by go_num, (fun j hj => ?_), below_then BL.out hw2⟩
            by_cases e : j = k
            · rw [e, HX.out]; exact HW.out
            · exact HOK.out j (by omega)
          case measure => simp [intOf]; omega
        · have z1 : decide (1073741824 < r) = true := decide_eq_true (by omega)
          obtain rfl : b = false := by
            rw [HB.out]; exact decide_eq_false fun h => hr (by have := h.2 k hlt; rw [HX.out] at this; exact this.2.2.2)
          clear hw hr t1 t2
          go_wp2_with fail
          refine MC.out.mono ?_
          rintro e w2 ⟨rfl, hw2⟩
          have c4 := AF.out w2 hw2
          clear e0 e1
          go_wp2_with fail
          go_ret
          exact ⟨rfl, below_then BL.out hw2⟩
      · have MC := Lib.hid (rlmay p r t2 wr false (decide_eq_false hw).symm)
        obtain rfl : b = false := by
          rw [HB.out]; exact decide_eq_false fun h => hw (by have := h.2 k hlt; rw [HX.out] at this; obtain ⟨a1, a2, a3, a4⟩ := this; dsimp only at a1 a2 a3 a4; omega)
        clear hw t1 t2
        go_wp2_with fail
        refine MC.out.mono ?_
        rintro e w2 ⟨rfl, hw2⟩
        go_wp2_with fail
        go_ret
        exact ⟨rfl, below_then BL.out hw2⟩
    · obtain rfl : k = n := by omega
      have HOK := Lib.hid hok
      clear hok
      by_cases h32 : k ≤ 16
      · have d0 : decide ((k : Int) ≤ 16) = true := decide_eq_true (by omega)
        have d0' : decide (k ≤ 16) = true := decide_eq_true h32
        obtain rfl : b = true := by rw [HB.out]; exact decide_eq_true ⟨h32, HOK.out⟩
        go_wp2_with fail
        go_ret
        exact ⟨rfl, hbl⟩
      · have d0 : decide ((k : Int) ≤ 16) = false := decide_eq_false (by omega)
        have d0' : decide (k ≤ 16) = false := decide_eq_false h32
        obtain rfl : b = false := by rw [HB.out]; exact decide_eq_false fun h => h32 h.1
        go_wp2_with fail
        go_ret
        exact ⟨rfl, hbl⟩
end
end Go.Proofs.Ytdemhhmceiaohaa
