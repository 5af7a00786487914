/- Contracts of layer 11's functions: a gatherer is one block of five numbers. -/
import Derived.Test.YtaoioejgealciaaTickC
import Derived.Test.YtaoioejgealciaaObj
import Derived.WalkLawsBesides
import Derived.WalkSpells
import Derived.Deep.QuietTactic
import Derived.BigQuiet
import Derived.RegionTactic
import Derived.Outline
namespace Go.Proofs.Ytaoioejgealciaa
open Go.RowKit
set_option linter.unusedVariables false
/-- The gatherer in block b: count, hold, now, has, first. -/
def Gk (w : World) (b : Nat) (C H N K F : Int) : Prop := Blk w b 73 #[.int .i64 C, .int .u64 H, .int .u64 N, .int .i64 K, .int .u64 F]
section
variable {w : World} {b : Nat} {C H N K F : Int}
theorem Gk.c0 (h : Gk w b C H N K F) : w.cell? ⟨b, 0, none⟩ = some (.int .i64 C) := by have := Blk.cell h 0; simpa using this
theorem Gk.c1 (h : Gk w b C H N K F) : w.cell? ⟨b, 1, none⟩ = some (.int .u64 H) := by have := Blk.cell h 1; simpa using this
theorem Gk.c2 (h : Gk w b C H N K F) : w.cell? ⟨b, 2, none⟩ = some (.int .u64 N) := by have := Blk.cell h 2; simpa using this
theorem Gk.c3 (h : Gk w b C H N K F) : w.cell? ⟨b, 3, none⟩ = some (.int .i64 K) := by have := Blk.cell h 3; simpa using this
theorem Gk.c4 (h : Gk w b C H N K F) : w.cell? ⟨b, 4, none⟩ = some (.int .u64 F) := by have := Blk.cell h 4; simpa using this
end
theorem due_none (b : Nat) (C H N F : Int) (w : World) (hb : Gk w b C H N 0 F) :
    Calls Try.prog 39 #[.pointer (some ⟨b, 0, none⟩)] w fun e w' => e = .returned (.tuple #[.int .u64 0, .bool false]) ∧ Gk w' b C H N 0 F ∧ Only b w w' := by
  have c3 := hb.c3
  go_enter Try.func39, Try.ntmps39
  go_wp2
  go_ret2
  exact ⟨rfl, hb, Only.refl _ _⟩
theorem due_some (b : Nat) (C H N K F : Int) (w : World) (hb : Gk w b C H N K F) (h0 : 0 ≤ F) (h1 : 0 ≤ H) (hH : H ≤ 1099511627776) (hK : 1 ≤ K) (hl : F + H < 4611686018427387904) :
    Calls Try.prog 39 #[.pointer (some ⟨b, 0, none⟩)] w fun e w' => e = .returned (.tuple #[.int .u64 (F + H), .bool true]) ∧ Gk w' b C H N K F ∧ Only b w w' := by
  have c1 := hb.c1
  have c3 := hb.c3
  have c4 := hb.c4
  have z0 : (K == 0) = false := beq_eq_false_iff_ne.2 (by omega)
  go_enter Try.func39, Try.ntmps39
  go_wp2_with fail
  go_quiet ((go_at_call 47; exact q_left (add_ok _ _ _ h0 h1 (by omega) hl)))
  go_wp2
  go_ret2
  exact ⟨rfl, hb.drewN _, (Only.refl _ _).drewN _⟩
theorem due_far (b : Nat) (C H N K F : Int) (w : World) (hb : Gk w b C H N K F) (h0 : 0 ≤ F) (h1 : 0 ≤ H) (hH : H ≤ 1099511627776) (hK : 1 ≤ K) (hl : ¬ F + H < 4611686018427387904) :
    Calls Try.prog 39 #[.pointer (some ⟨b, 0, none⟩)] w fun e w' => e = .returned (.tuple #[.int .u64 0, .bool false]) ∧ Gk w' b C H N K F ∧ Only b w w' := by
  have c1 := hb.c1
  have c3 := hb.c3
  have c4 := hb.c4
  have z0 : (K == 0) = false := beq_eq_false_iff_ne.2 (by omega)
  go_enter Try.func39, Try.ntmps39
  go_wp2_with fail
  go_quiet ((go_at_call 47; exact q_left (add_no _ _ _ h0 h1 (by omega))))
  go_wp2
  go_ret2
  exact ⟨rfl, hb.drewN _, (Only.refl _ _).drewN _⟩
theorem fire_any (b : Nat) (C H N K F : Int) (w : World) (hb : Gk w b C H N K F) :
    Calls Try.prog 46 #[.pointer (some ⟨b, 0, none⟩)] w fun e w' => e = .returned (.int .i64 K) ∧ Gk w' b C H N 0 F ∧ Only b w w' := by
  have c3 := hb.c3
  have f3 := Blk.frozen hb 3
  go_enter Try.func46, Try.ntmps46
  go_wp2
  go_ret
  exact ⟨rfl, hb.set_ 3 _, (Only.refl _ _).set_ 3 _⟩
/-! The closure of a raise, called once the time has gone on; p, q: the boxes that it captured. -/
theorem then_fires (b p q : Nat) (C H N K F now : Int) (w : World) (hb : Gk w b C H N K F) (h0 : w.cell? ⟨p, 0, none⟩ = some (.pointer (some ⟨b, 0, none⟩))) (h1 : w.cell? ⟨q, 0, none⟩ = some (.int .u64 now))
    (hK : 1 ≤ K) (hK2 : K ≤ 1000) (hp : p ≠ b) (hq : q ≠ b) (hf : C ≤ (K + 1) ∨ H = 0) :
    Calls Try.prog 45 #[.pointer (some ⟨p, 0, none⟩), .pointer (some ⟨q, 0, none⟩)] w fun e w' => e = .returned (.int .i64 (K + 1)) ∧ Gk w' b C H N 0 F ∧ Only b w w' := by
  have c0 := hb.c0
  have c1 := hb.c1
  have c3 := hb.c3
  have f3 := Blk.frozen hb 3
  have f4 := Blk.frozen hb 4
  have z0 : (K == 0) = false := beq_eq_false_iff_ne.2 (by omega)
  have hb1 : Gk (w.setCell ⟨b, 3, none⟩ (.int .i64 (K + 1))) b C H N (K + 1) F := hb.set_ 3 _
  have ho1 : Only b w (w.setCell ⟨b, 3, none⟩ (.int .i64 (K + 1))) := (Only.refl _ _).set_ 3 _
  by_cases hC : C ≤ (K + 1)
  · have d1 : decide (C ≤ (K + 1)) = true := decide_eq_true hC
    clear hf
    go_enter Try.func45, Try.ntmps45
    go_wp2_with fail
    go_quiet (fail)
    go_wp2_with (go_at_call 46; refine (fire_any b C H N (K + 1) F _ (hb1.drewN _)).mono ?_; rintro r w1 ⟨rfl, hb2, ho⟩)
    go_ret
    exact ⟨rfl, hb2, (ho1.drewN _).trans ho⟩
  · have d1 : decide (C ≤ (K + 1)) = false := decide_eq_false hC
    obtain rfl : H = 0 := by omega
    clear hf
    go_enter Try.func45, Try.ntmps45
    go_wp2_with fail
    go_quiet (fail)
    go_wp2_with (go_at_call 46; refine (fire_any b C 0 N (K + 1) F _ (hb1.drewN _)).mono ?_; rintro r w1 ⟨rfl, hb2, ho⟩)
    go_ret
    exact ⟨rfl, hb2, (ho1.drewN _).trans ho⟩
theorem then_keeps (b p q : Nat) (C H N K F now : Int) (w : World) (hb : Gk w b C H N K F) (h0 : w.cell? ⟨p, 0, none⟩ = some (.pointer (some ⟨b, 0, none⟩))) (h1 : w.cell? ⟨q, 0, none⟩ = some (.int .u64 now))
    (hK : 1 ≤ K) (hK2 : K ≤ 1000) (hp : p ≠ b) (hq : q ≠ b) (hf : (K + 1) < C) (hH : 1 ≤ H) :
    Calls Try.prog 45 #[.pointer (some ⟨p, 0, none⟩), .pointer (some ⟨q, 0, none⟩)] w fun e w' => e = .returned (.int .i64 0) ∧ Gk w' b C H N (K + 1) F ∧ Only b w w' := by
  have c0 := hb.c0
  have c1 := hb.c1
  have c3 := hb.c3
  have f3 := Blk.frozen hb 3
  have f4 := Blk.frozen hb 4
  have z0 : (K == 0) = false := beq_eq_false_iff_ne.2 (by omega)
  have hb1 : Gk (w.setCell ⟨b, 3, none⟩ (.int .i64 (K + 1))) b C H N (K + 1) F := hb.set_ 3 _
  have ho1 : Only b w (w.setCell ⟨b, 3, none⟩ (.int .i64 (K + 1))) := (Only.refl _ _).set_ 3 _
  have d1 : decide (C ≤ (K + 1)) = false := decide_eq_false (by omega)
  have z1 : (H == 0) = false := beq_eq_false_iff_ne.2 (by omega)
  go_enter Try.func45, Try.ntmps45
  go_wp2_with fail
  go_quiet (fail)
  go_wp2
  go_ret
  exact ⟨rfl, hb1.drewN _, ho1.drewN _⟩
theorem then_fires0 (b p q : Nat) (C H N F now : Int) (w : World) (hb : Gk w b C H N 0 F) (h0 : w.cell? ⟨p, 0, none⟩ = some (.pointer (some ⟨b, 0, none⟩))) (h1 : w.cell? ⟨q, 0, none⟩ = some (.int .u64 now))
    (hp : p ≠ b) (hq : q ≠ b) (hf : C ≤ 1 ∨ H = 0) :
    Calls Try.prog 45 #[.pointer (some ⟨p, 0, none⟩), .pointer (some ⟨q, 0, none⟩)] w fun e w' => e = .returned (.int .i64 1) ∧ Gk w' b C H N 0 now ∧ Only b w w' := by
  have c0 := hb.c0
  have c1 := hb.c1
  have c3 := hb.c3
  have f3 := Blk.frozen hb 3
  have f4 := Blk.frozen hb 4
  have c4 := hb.c4
  have hb1 : Gk ((w.setCell ⟨b, 4, none⟩ (.int .u64 now)).setCell ⟨b, 3, none⟩ (.int .i64 1)) b C H N 1 now := (hb.set_ 4 _).set_ 3 _
  have ho1 : Only b w ((w.setCell ⟨b, 4, none⟩ (.int .u64 now)).setCell ⟨b, 3, none⟩ (.int .i64 1)) := ((Only.refl _ _).set_ 4 _).set_ 3 _
  by_cases hC : C ≤ 1
  · have d1 : decide (C ≤ 1) = true := decide_eq_true hC
    clear hf
    go_enter Try.func45, Try.ntmps45
    go_wp2_with fail
    go_quiet (fail)
    go_wp2_with (go_at_call 46; refine (fire_any b C H N 1 now _ (hb1.drewN _)).mono ?_; rintro r w1 ⟨rfl, hb2, ho⟩)
    go_ret
    exact ⟨rfl, hb2, (ho1.drewN _).trans ho⟩
  · have d1 : decide (C ≤ 1) = false := decide_eq_false hC
    obtain rfl : H = 0 := by omega
    clear hf
    go_enter Try.func45, Try.ntmps45
    go_wp2_with fail
    go_quiet (fail)
    go_wp2_with (go_at_call 46; refine (fire_any b C 0 N 1 now _ (hb1.drewN _)).mono ?_; rintro r w1 ⟨rfl, hb2, ho⟩)
    go_ret
    exact ⟨rfl, hb2, (ho1.drewN _).trans ho⟩
theorem then_keeps0 (b p q : Nat) (C H N F now : Int) (w : World) (hb : Gk w b C H N 0 F) (h0 : w.cell? ⟨p, 0, none⟩ = some (.pointer (some ⟨b, 0, none⟩))) (h1 : w.cell? ⟨q, 0, none⟩ = some (.int .u64 now))
    (hp : p ≠ b) (hq : q ≠ b) (hf : 1 < C) (hH : 1 ≤ H) :
    Calls Try.prog 45 #[.pointer (some ⟨p, 0, none⟩), .pointer (some ⟨q, 0, none⟩)] w fun e w' => e = .returned (.int .i64 0) ∧ Gk w' b C H N 1 now ∧ Only b w w' := by
  have c0 := hb.c0
  have c1 := hb.c1
  have c3 := hb.c3
  have f3 := Blk.frozen hb 3
  have f4 := Blk.frozen hb 4
  have c4 := hb.c4
  have hb1 : Gk ((w.setCell ⟨b, 4, none⟩ (.int .u64 now)).setCell ⟨b, 3, none⟩ (.int .i64 1)) b C H N 1 now := (hb.set_ 4 _).set_ 3 _
  have ho1 : Only b w ((w.setCell ⟨b, 4, none⟩ (.int .u64 now)).setCell ⟨b, 3, none⟩ (.int .i64 1)) := ((Only.refl _ _).set_ 4 _).set_ 3 _
  have d1 : decide (C ≤ 1) = false := decide_eq_false (by omega)
  have z1 : (H == 0) = false := beq_eq_false_iff_ne.2 (by omega)
  go_enter Try.func45, Try.ntmps45
  go_wp2_with fail
  go_quiet (fail)
  go_wp2
  go_ret
  exact ⟨rfl, hb1.drewN _, ho1.drewN _⟩
theorem may_yes (t : Int) (w : World) (h : t < 4611686018427387904) : Calls Try.prog 38 #[.int .u64 t] w fun e w' => e = .returned (.bool true) ∧ w = w' :=
  (may_any t w).mono fun _ _ ⟨he, hw⟩ => ⟨by rw [he, decide_eq_true h], hw⟩
theorem goOn_r_due (b : Nat) (C H N K F now r K2 F2 : Int) (p q : Nat) (w : World) (hb : Gk w b C H N K F) (hF : 0 ≤ F) (hH0 : 0 ≤ H) (hH : H ≤ 1099511627776) (hK2 : K ≤ 1000) (hN : N ≤ now) (hl : now < 4611686018427387904) (hr : 0 ≤ r ∧ r ≤ 1000) (hd1 : 1 ≤ K) (hd2 : F + H ≤ now)
    (ht : ∀ w1, Gk w1 b C H now 0 F → Only b w w1 → Calls Try.prog 45 #[.pointer (some ⟨p, 0, none⟩), .pointer (some ⟨q, 0, none⟩)] w1 fun e w' => e = .returned (.int .i64 r) ∧ Gk w' b C H now K2 F2 ∧ Only b w1 w') :
    Calls Try.prog 44 #[.pointer (some ⟨b, 0, none⟩), .int .u64 now, .func (Fn.func 45) #[] #[.pointer (some ⟨p, 0, none⟩), .pointer (some ⟨q, 0, none⟩)]] w fun e w' => e = .returned (.tuple #[.int .i64 (K + r), .int .i64 0]) ∧ Gk w' b C H now K2 F2 ∧ Only b w w' := by
  have c2 := hb.c2
  have f2 := Blk.frozen hb 2
  have d1 : decide (now < N) = false := decide_eq_false (by omega)
  have hb1 : Gk (w.setCell ⟨b, 2, none⟩ (.int .u64 now)) b C H now K F := hb.set_ 2 _
  have ho1 : Only b w (w.setCell ⟨b, 2, none⟩ (.int .u64 now)) := (Only.refl _ _).set_ 2 _
  have HT := Lib.hid ht
  clear ht
  have d2 : decide (F + H ≤ now) = true := decide_eq_true hd2
  go_enter Try.func44, Try.ntmps44
  go_wp2_with (first | (go_at_call 38; refine (may_yes _ _ hl).mono ?_; rintro e w' ⟨rfl, rfl⟩) | (go_at_call 39; refine (due_some b C H now K F _ hb1 hF hH0 hH hd1 (by omega)).mono ?_; rintro e w2 ⟨rfl, hb2, ho2⟩) | (go_at_call 46; refine (fire_any b C H now K F _ hb2).mono ?_; rintro e w3 ⟨rfl, hb3, ho3⟩) | (go_at_call 45; refine (HT.out _ hb3 (ho1.trans (ho2.trans ho3))).mono ?_; rintro e w4 ⟨rfl, hb4, ho4⟩))
  go_ret2
  exact ⟨rfl, hb4, ((ho1.trans ho2).trans ho3).trans ho4⟩
theorem goOn_r_later (b : Nat) (C H N K F now r K2 F2 : Int) (p q : Nat) (w : World) (hb : Gk w b C H N K F) (hF : 0 ≤ F) (hH0 : 0 ≤ H) (hH : H ≤ 1099511627776) (hK2 : K ≤ 1000) (hN : N ≤ now) (hl : now < 4611686018427387904) (hr : 0 ≤ r ∧ r ≤ 1000) (hd1 : 1 ≤ K) (hd2 : now < F + H)
    (ht : ∀ w1, Gk w1 b C H now K F → Only b w w1 → Calls Try.prog 45 #[.pointer (some ⟨p, 0, none⟩), .pointer (some ⟨q, 0, none⟩)] w1 fun e w' => e = .returned (.int .i64 r) ∧ Gk w' b C H now K2 F2 ∧ Only b w1 w') :
    Calls Try.prog 44 #[.pointer (some ⟨b, 0, none⟩), .int .u64 now, .func (Fn.func 45) #[] #[.pointer (some ⟨p, 0, none⟩), .pointer (some ⟨q, 0, none⟩)]] w fun e w' => e = .returned (.tuple #[.int .i64 (r), .int .i64 0]) ∧ Gk w' b C H now K2 F2 ∧ Only b w w' := by
  have c2 := hb.c2
  have f2 := Blk.frozen hb 2
  have d1 : decide (now < N) = false := decide_eq_false (by omega)
  have hb1 : Gk (w.setCell ⟨b, 2, none⟩ (.int .u64 now)) b C H now K F := hb.set_ 2 _
  have ho1 : Only b w (w.setCell ⟨b, 2, none⟩ (.int .u64 now)) := (Only.refl _ _).set_ 2 _
  have HT := Lib.hid ht
  clear ht
  by_cases hfar : F + H < 4611686018427387904
  · have d2 : decide (F + H ≤ now) = false := decide_eq_false (by omega)
    go_enter Try.func44, Try.ntmps44
    go_wp2_with (first | (go_at_call 38; refine (may_yes _ _ hl).mono ?_; rintro e w' ⟨rfl, rfl⟩) | (go_at_call 39; refine (due_some b C H now K F _ hb1 hF hH0 hH hd1 (by omega)).mono ?_; rintro e w2 ⟨rfl, hb2, ho2⟩) | (go_at_call 45; refine (HT.out _ hb2 (ho1.trans ho2)).mono ?_; rintro e w4 ⟨rfl, hb4, ho4⟩))
    go_ret2
    exact ⟨rfl, hb4, (ho1.trans ho2).trans ho4⟩
  · have _h := hfar
    go_enter Try.func44, Try.ntmps44
    go_wp2_with (first | (go_at_call 38; refine (may_yes _ _ hl).mono ?_; rintro e w' ⟨rfl, rfl⟩) | (go_at_call 39; refine (due_far b C H now K F _ hb1 hF hH0 hH hd1 (by omega)).mono ?_; rintro e w2 ⟨rfl, hb2, ho2⟩) | (go_at_call 45; refine (HT.out _ hb2 (ho1.trans ho2)).mono ?_; rintro e w4 ⟨rfl, hb4, ho4⟩))
    go_ret2
    exact ⟨rfl, hb4, (ho1.trans ho2).trans ho4⟩
theorem goOn_r_none (b : Nat) (C H N F now r K2 F2 : Int) (p q : Nat) (w : World) (hb : Gk w b C H N 0 F) (hF : 0 ≤ F) (hH0 : 0 ≤ H) (hH : H ≤ 1099511627776) (hK2 : 0 ≤ 1000) (hN : N ≤ now) (hl : now < 4611686018427387904) (hr : 0 ≤ r ∧ r ≤ 1000) 
    (ht : ∀ w1, Gk w1 b C H now 0 F → Only b w w1 → Calls Try.prog 45 #[.pointer (some ⟨p, 0, none⟩), .pointer (some ⟨q, 0, none⟩)] w1 fun e w' => e = .returned (.int .i64 r) ∧ Gk w' b C H now K2 F2 ∧ Only b w1 w') :
    Calls Try.prog 44 #[.pointer (some ⟨b, 0, none⟩), .int .u64 now, .func (Fn.func 45) #[] #[.pointer (some ⟨p, 0, none⟩), .pointer (some ⟨q, 0, none⟩)]] w fun e w' => e = .returned (.tuple #[.int .i64 (r), .int .i64 0]) ∧ Gk w' b C H now K2 F2 ∧ Only b w w' := by
  have c2 := hb.c2
  have f2 := Blk.frozen hb 2
  have d1 : decide (now < N) = false := decide_eq_false (by omega)
  have hb1 : Gk (w.setCell ⟨b, 2, none⟩ (.int .u64 now)) b C H now 0 F := hb.set_ 2 _
  have ho1 : Only b w (w.setCell ⟨b, 2, none⟩ (.int .u64 now)) := (Only.refl _ _).set_ 2 _
  have HT := Lib.hid ht
  clear ht
  go_enter Try.func44, Try.ntmps44
  go_wp2_with (first | (go_at_call 38; refine (may_yes _ _ hl).mono ?_; rintro e w' ⟨rfl, rfl⟩) | (go_at_call 39; refine (due_none b C H now F _ hb1).mono ?_; rintro e w2 ⟨rfl, hb2, ho2⟩) | (go_at_call 45; refine (HT.out _ hb2 (ho1.trans ho2)).mono ?_; rintro e w4 ⟨rfl, hb4, ho4⟩))
  go_ret2
  exact ⟨rfl, hb4, (ho1.trans ho2).trans ho4⟩
theorem goOn_g_due (b : Nat) (C H N K F now r K2 F2 : Int)  (w : World) (hb : Gk w b C H N K F) (hF : 0 ≤ F) (hH0 : 0 ≤ H) (hH : H ≤ 1099511627776) (hK2 : K ≤ 1000) (hN : N ≤ now) (hl : now < 4611686018427387904) (hr : 0 ≤ r ∧ r ≤ 1000) (hd1 : 1 ≤ K) (hd2 : F + H ≤ now)
    (ht : ∀ w1, Gk w1 b C H now 0 F → Only b w w1 → Calls Try.prog 50 #[] w1 fun e w' => e = .returned (.int .i64 r) ∧ Gk w' b C H now K2 F2 ∧ Only b w1 w') :
    Calls Try.prog 44 #[.pointer (some ⟨b, 0, none⟩), .int .u64 now, .func (Fn.func 50) #[] #[]] w fun e w' => e = .returned (.tuple #[.int .i64 (K + r), .int .i64 0]) ∧ Gk w' b C H now K2 F2 ∧ Only b w w' := by
  have c2 := hb.c2
  have f2 := Blk.frozen hb 2
  have d1 : decide (now < N) = false := decide_eq_false (by omega)
  have hb1 : Gk (w.setCell ⟨b, 2, none⟩ (.int .u64 now)) b C H now K F := hb.set_ 2 _
  have ho1 : Only b w (w.setCell ⟨b, 2, none⟩ (.int .u64 now)) := (Only.refl _ _).set_ 2 _
  have HT := Lib.hid ht
  clear ht
  have d2 : decide (F + H ≤ now) = true := decide_eq_true hd2
  go_enter Try.func44, Try.ntmps44
  go_wp2_with (first | (go_at_call 38; refine (may_yes _ _ hl).mono ?_; rintro e w' ⟨rfl, rfl⟩) | (go_at_call 39; refine (due_some b C H now K F _ hb1 hF hH0 hH hd1 (by omega)).mono ?_; rintro e w2 ⟨rfl, hb2, ho2⟩) | (go_at_call 46; refine (fire_any b C H now K F _ hb2).mono ?_; rintro e w3 ⟨rfl, hb3, ho3⟩) | (go_at_call 50; refine (HT.out _ hb3 (ho1.trans (ho2.trans ho3))).mono ?_; rintro e w4 ⟨rfl, hb4, ho4⟩))
  go_ret2
  exact ⟨rfl, hb4, ((ho1.trans ho2).trans ho3).trans ho4⟩
theorem goOn_g_later (b : Nat) (C H N K F now r K2 F2 : Int)  (w : World) (hb : Gk w b C H N K F) (hF : 0 ≤ F) (hH0 : 0 ≤ H) (hH : H ≤ 1099511627776) (hK2 : K ≤ 1000) (hN : N ≤ now) (hl : now < 4611686018427387904) (hr : 0 ≤ r ∧ r ≤ 1000) (hd1 : 1 ≤ K) (hd2 : now < F + H)
    (ht : ∀ w1, Gk w1 b C H now K F → Only b w w1 → Calls Try.prog 50 #[] w1 fun e w' => e = .returned (.int .i64 r) ∧ Gk w' b C H now K2 F2 ∧ Only b w1 w') :
    Calls Try.prog 44 #[.pointer (some ⟨b, 0, none⟩), .int .u64 now, .func (Fn.func 50) #[] #[]] w fun e w' => e = .returned (.tuple #[.int .i64 (r), .int .i64 0]) ∧ Gk w' b C H now K2 F2 ∧ Only b w w' := by
  have c2 := hb.c2
  have f2 := Blk.frozen hb 2
  have d1 : decide (now < N) = false := decide_eq_false (by omega)
  have hb1 : Gk (w.setCell ⟨b, 2, none⟩ (.int .u64 now)) b C H now K F := hb.set_ 2 _
  have ho1 : Only b w (w.setCell ⟨b, 2, none⟩ (.int .u64 now)) := (Only.refl _ _).set_ 2 _
  have HT := Lib.hid ht
  clear ht
  by_cases hfar : F + H < 4611686018427387904
  · have d2 : decide (F + H ≤ now) = false := decide_eq_false (by omega)
    go_enter Try.func44, Try.ntmps44
    go_wp2_with (first | (go_at_call 38; refine (may_yes _ _ hl).mono ?_; rintro e w' ⟨rfl, rfl⟩) | (go_at_call 39; refine (due_some b C H now K F _ hb1 hF hH0 hH hd1 (by omega)).mono ?_; rintro e w2 ⟨rfl, hb2, ho2⟩) | (go_at_call 50; refine (HT.out _ hb2 (ho1.trans ho2)).mono ?_; rintro e w4 ⟨rfl, hb4, ho4⟩))
    go_ret2
    exact ⟨rfl, hb4, (ho1.trans ho2).trans ho4⟩
  · have _h := hfar
    go_enter Try.func44, Try.ntmps44
    go_wp2_with (first | (go_at_call 38; refine (may_yes _ _ hl).mono ?_; rintro e w' ⟨rfl, rfl⟩) | (go_at_call 39; refine (due_far b C H now K F _ hb1 hF hH0 hH hd1 (by omega)).mono ?_; rintro e w2 ⟨rfl, hb2, ho2⟩) | (go_at_call 50; refine (HT.out _ hb2 (ho1.trans ho2)).mono ?_; rintro e w4 ⟨rfl, hb4, ho4⟩))
    go_ret2
    exact ⟨rfl, hb4, (ho1.trans ho2).trans ho4⟩
theorem goOn_g_none (b : Nat) (C H N F now r K2 F2 : Int)  (w : World) (hb : Gk w b C H N 0 F) (hF : 0 ≤ F) (hH0 : 0 ≤ H) (hH : H ≤ 1099511627776) (hK2 : 0 ≤ 1000) (hN : N ≤ now) (hl : now < 4611686018427387904) (hr : 0 ≤ r ∧ r ≤ 1000) 
    (ht : ∀ w1, Gk w1 b C H now 0 F → Only b w w1 → Calls Try.prog 50 #[] w1 fun e w' => e = .returned (.int .i64 r) ∧ Gk w' b C H now K2 F2 ∧ Only b w1 w') :
    Calls Try.prog 44 #[.pointer (some ⟨b, 0, none⟩), .int .u64 now, .func (Fn.func 50) #[] #[]] w fun e w' => e = .returned (.tuple #[.int .i64 (r), .int .i64 0]) ∧ Gk w' b C H now K2 F2 ∧ Only b w w' := by
  have c2 := hb.c2
  have f2 := Blk.frozen hb 2
  have d1 : decide (now < N) = false := decide_eq_false (by omega)
  have hb1 : Gk (w.setCell ⟨b, 2, none⟩ (.int .u64 now)) b C H now 0 F := hb.set_ 2 _
  have ho1 : Only b w (w.setCell ⟨b, 2, none⟩ (.int .u64 now)) := (Only.refl _ _).set_ 2 _
  have HT := Lib.hid ht
  clear ht
  go_enter Try.func44, Try.ntmps44
  go_wp2_with (first | (go_at_call 38; refine (may_yes _ _ hl).mono ?_; rintro e w' ⟨rfl, rfl⟩) | (go_at_call 39; refine (due_none b C H now F _ hb1).mono ?_; rintro e w2 ⟨rfl, hb2, ho2⟩) | (go_at_call 50; refine (HT.out _ hb2 (ho1.trans ho2)).mono ?_; rintro e w4 ⟨rfl, hb4, ho4⟩))
  go_ret2
  exact ⟨rfl, hb4, (ho1.trans ho2).trans ho4⟩
theorem go_then (w : World) : Calls Try.prog 50 #[] w fun e w' => e = .returned (.int .i64 0) ∧ w = w' := by
  go_enter Try.func50, Try.ntmps50
  go_wp2
  go_ret
  exact ⟨rfl, rfl⟩
/-! Go and Raise, once. KOK: what holds of a gatherer between two calls. -/
def KOK (C H N K F : Int) : Prop := 1 ≤ C ∧ C ≤ 1000 ∧ 0 ≤ H ∧ H ≤ 1099511627776 ∧ 0 ≤ N ∧ 0 ≤ K ∧ K ≤ 1000 ∧ 0 ≤ F ∧ F < 4611686018427387904
theorem go_due (b : Nat) (C H N K F now : Int) (w : World) (hb : Gk w b C H N K F) (ho : KOK C H N K F) (hN : N ≤ now) (hl : now < 4611686018427387904) (hd1 : 1 ≤ K) (hd2 : F + H ≤ now) :
    Calls Try.prog 42 #[.pointer (some ⟨b, 0, none⟩), .int .u64 now] w fun e w' => e = .returned (.tuple #[.int .i64 K, .int .i64 0]) ∧ Gk w' b C H now 0 F ∧ Only b w w' := by
  obtain ⟨g1, g2, g3, g4, g5, g6, g7, g8, g9⟩ := ho
  go_enter Try.func42, Try.ntmps42
  go_wp2_with fail
  refine (goOn_g_due b C H N K F now 0 0 F _ hb g8 g3 g4 g7 hN hl (by omega) hd1 hd2 fun w1 h1 _ => (go_then w1).mono fun _ _ ⟨he, hw⟩ => ⟨he, hw ▸ h1, hw ▸ Only.refl _ _⟩).mono ?_
  rintro e w1 ⟨rfl, hb1, ho1⟩
  go_wp2_with fail
  go_ret2
  exact ⟨by simp, hb1, ho1⟩
theorem go_not (b : Nat) (C H N K F now : Int) (w : World) (hb : Gk w b C H N K F) (ho : KOK C H N K F) (hN : N ≤ now) (hl : now < 4611686018427387904) (hd : K = 0 ∨ now < F + H) :
    Calls Try.prog 42 #[.pointer (some ⟨b, 0, none⟩), .int .u64 now] w fun e w' => e = .returned (.tuple #[.int .i64 0, .int .i64 0]) ∧ Gk w' b C H now K F ∧ Only b w w' := by
  obtain ⟨g1, g2, g3, g4, g5, g6, g7, g8, g9⟩ := ho
  by_cases hk : K = 0
  · subst hk
    clear hd
    go_enter Try.func42, Try.ntmps42
    go_wp2_with fail
    refine (goOn_g_none b C H N F now 0 0 F _ hb g8 g3 g4 (by omega) hN hl (by omega) fun w1 h1 _ => (go_then w1).mono fun _ _ ⟨he, hw⟩ => ⟨he, hw ▸ h1, hw ▸ Only.refl _ _⟩).mono ?_
    rintro e w1 ⟨rfl, hb1, ho1⟩
    go_wp2_with fail
    go_ret2
    exact ⟨rfl, hb1, ho1⟩
  · have hlt : now < F + H := by omega
    clear hd
    go_enter Try.func42, Try.ntmps42
    go_wp2_with fail
    refine (goOn_g_later b C H N K F now 0 K F _ hb g8 g3 g4 g7 hN hl (by omega) (by omega) hlt fun w1 h1 _ => (go_then w1).mono fun _ _ ⟨he, hw⟩ => ⟨he, hw ▸ h1, hw ▸ Only.refl _ _⟩).mono ?_
    rintro e w1 ⟨rfl, hb1, ho1⟩
    go_wp2_with fail
    go_ret2
    exact ⟨rfl, hb1, ho1⟩
/-- What a raise answers, what is left, and since when; K, F: what there was when the time had gone on. -/
def rR (C H K : Int) : Int := if C ≤ K + 1 ∨ H = 0 then K + 1 else 0
def rK (C H K : Int) : Int := if C ≤ K + 1 ∨ H = 0 then 0 else K + 1
def rF (K F now : Int) : Int := if K = 0 then now else F
theorem then_any (b p q : Nat) (C H N K F now : Int) (w : World) (hb : Gk w b C H N K F) (h0 : w.cell? ⟨p, 0, none⟩ = some (.pointer (some ⟨b, 0, none⟩))) (h1 : w.cell? ⟨q, 0, none⟩ = some (.int .u64 now))
    (hK : 0 ≤ K) (hK2 : K ≤ 1000) (hH : 0 ≤ H) (hp : p ≠ b) (hq : q ≠ b) :
    Calls Try.prog 45 #[.pointer (some ⟨p, 0, none⟩), .pointer (some ⟨q, 0, none⟩)] w fun e w' => e = .returned (.int .i64 (rR C H K)) ∧ Gk w' b C H N (rK C H K) (rF K F now) ∧ Only b w w' := by
  unfold rR rK rF
  by_cases hk : K = 0
  · subst hk
    rw [if_pos rfl]
    by_cases hf : C ≤ 0 + 1 ∨ H = 0
    · rw [if_pos hf, if_pos hf]; exact then_fires0 b p q C H N F now w hb h0 h1 hp hq (by simpa using hf)
    · rw [if_neg hf, if_neg hf]; exact then_keeps0 b p q C H N F now w hb h0 h1 hp hq (by omega) (by omega)
  · rw [if_neg hk]
    by_cases hf : C ≤ K + 1 ∨ H = 0
    · rw [if_pos hf, if_pos hf]; exact then_fires b p q C H N K F now w hb h0 h1 (by omega) hK2 hp hq hf
    · rw [if_neg hf, if_neg hf]; exact then_keeps b p q C H N K F now w hb h0 h1 (by omega) hK2 hp hq (by omega) (by omega)
theorem rR_bd {C H K : Int} (hK : 0 ≤ K) (hK2 : K ≤ 999) : 0 ≤ rR C H K ∧ rR C H K ≤ 1000 := by unfold rR; split <;> omega
theorem raise_due (b : Nat) (C H N K F now : Int) (w : World) (hb : Gk w b C H N K F) (ho : KOK C H N K F) (hN : N ≤ now) (hl : now < 4611686018427387904) (hd1 : 1 ≤ K) (hd2 : F + H ≤ now) :
    Calls Try.prog 37 #[.pointer (some ⟨b, 0, none⟩), .int .u64 now] w fun e w' => e = .returned (.tuple #[.int .i64 (K + rR C H 0), .int .i64 0]) ∧ Gk w' b C H now (rK C H 0) now ∧ Only b w w' := by
  obtain ⟨g1, g2, g3, g4, g5, g6, g7, g8, g9⟩ := ho
  have hbl := hb.lt
  go_enter Try.func37, Try.ntmps37
  go_wp2_with fail
  refine (goOn_r_due b C H N K F now (rR C H 0) (rK C H 0) now w.heap.size (w.heap.size + 1) _ ((Blk.alloc hb _).alloc _) g8 g3 g4 g7 hN hl (rR_bd (by omega) (by omega)) hd1 hd2 fun w1 h1 o1 => ?_).mono ?_
  · have k0 := (o1.cell (p := ⟨w.heap.size, 0, none⟩) (by simp; omega) (by show w.heap.size ≠ b; omega)).trans (show _ = some (.pointer (some ⟨b, 0, none⟩)) by simp)
    have k1 := (o1.cell (p := ⟨w.heap.size + 1, 0, none⟩) (by simp) (by show w.heap.size + 1 ≠ b; omega)).trans (show _ = some (.int .u64 now) by simp)
    exact then_any b _ _ C H now 0 F now w1 h1 k0 k1 (by omega) (by omega) g3 (by omega) (by omega)
  · rintro e w1 ⟨rfl, hb1, ho1⟩
    go_wp2_with fail
    go_ret2
    exact ⟨rfl, hb1, (((Only.refl _ _).alloc _).alloc _).trans ho1⟩
theorem raise_not (b : Nat) (C H N K F now : Int) (w : World) (hb : Gk w b C H N K F) (ho : KOK C H N K F) (hN : N ≤ now) (hl : now < 4611686018427387904) (hK : K ≤ 999) (hd : K = 0 ∨ now < F + H) :
    Calls Try.prog 37 #[.pointer (some ⟨b, 0, none⟩), .int .u64 now] w fun e w' => e = .returned (.tuple #[.int .i64 (rR C H K), .int .i64 0]) ∧ Gk w' b C H now (rK C H K) (rF K F now) ∧ Only b w w' := by
  obtain ⟨g1, g2, g3, g4, g5, g6, g7, g8, g9⟩ := ho
  have hbl := hb.lt
  by_cases hk : K = 0
  · subst hk
    clear hd
    go_enter Try.func37, Try.ntmps37
    go_wp2_with fail
    refine (goOn_r_none b C H N F now (rR C H 0) (rK C H 0) (rF 0 F now) w.heap.size (w.heap.size + 1) _ ((Blk.alloc hb _).alloc _) g8 g3 g4 (by omega) hN hl (rR_bd (by omega) (by omega)) fun w1 h1 o1 => ?_).mono ?_
    · have k0 := (o1.cell (p := ⟨w.heap.size, 0, none⟩) (by simp; omega) (by show w.heap.size ≠ b; omega)).trans (show _ = some (.pointer (some ⟨b, 0, none⟩)) by simp)
      have k1 := (o1.cell (p := ⟨w.heap.size + 1, 0, none⟩) (by simp) (by show w.heap.size + 1 ≠ b; omega)).trans (show _ = some (.int .u64 now) by simp)
      exact then_any b _ _ C H now 0 F now w1 h1 k0 k1 (by omega) (by omega) g3 (by omega) (by omega)
    · rintro e w1 ⟨rfl, hb1, ho1⟩
      go_wp2_with fail
      go_ret2
      exact ⟨rfl, hb1, (((Only.refl _ _).alloc _).alloc _).trans ho1⟩
  · have hlt : now < F + H := by omega
    clear hd
    go_enter Try.func37, Try.ntmps37
    go_wp2_with fail
    refine (goOn_r_later b C H N K F now (rR C H K) (rK C H K) (rF K F now) w.heap.size (w.heap.size + 1) _ ((Blk.alloc hb _).alloc _) g8 g3 g4 g7 hN hl (rR_bd (by omega) (by omega)) (by omega) hlt fun w1 h1 o1 => ?_).mono ?_
    · have k0 := (o1.cell (p := ⟨w.heap.size, 0, none⟩) (by simp; omega) (by show w.heap.size ≠ b; omega)).trans (show _ = some (.pointer (some ⟨b, 0, none⟩)) by simp)
      have k1 := (o1.cell (p := ⟨w.heap.size + 1, 0, none⟩) (by simp) (by show w.heap.size + 1 ≠ b; omega)).trans (show _ = some (.int .u64 now) by simp)
      exact then_any b _ _ C H now K F now w1 h1 k0 k1 (by omega) (by omega) g3 (by omega) (by omega)
    · rintro e w1 ⟨rfl, hb1, ho1⟩
      go_wp2_with fail
      go_ret2
      exact ⟨rfl, hb1, (((Only.refl _ _).alloc _).alloc _).trans ho1⟩
end Go.Proofs.Ytaoioejgealciaa
