/- Contracts of layer 12's functions: a bucket is one block of four numbers. -/
import Derived.Test.YtaoioejgealciaaTickC
import Derived.Test.YtaoioejgealciaaObj
import Derived.WalkLawsBesides
import Derived.WalkSpells
import Derived.Deep.QuietTactic
import Derived.BigQuiet
import Derived.RegionTactic
import Derived.StillTailTactics
namespace Go.Proofs.Ytaoioejgealciaa.bu
open Go.RowKit
set_option linter.unusedVariables false
/-- The bucket in block b: depth, every, now, tokens. -/
def Bk (w : World) (b : Nat) (D E N T : Int) : Prop := Blk w b 75 #[.int .u64 D, .int .u64 E, .int .u64 N, .int .u64 T]
section
variable {w : World} {b : Nat} {D E N T : Int}
theorem Bk.c0 (h : Bk w b D E N T) : w.cell? ⟨b, 0, none⟩ = some (.int .u64 D) := by have := Blk.cell h 0; simpa using this
theorem Bk.c1 (h : Bk w b D E N T) : w.cell? ⟨b, 1, none⟩ = some (.int .u64 E) := by have := Blk.cell h 1; simpa using this
theorem Bk.c2 (h : Bk w b D E N T) : w.cell? ⟨b, 2, none⟩ = some (.int .u64 N) := by have := Blk.cell h 2; simpa using this
theorem Bk.c3 (h : Bk w b D E N T) : w.cell? ⟨b, 3, none⟩ = some (.int .u64 T) := by have := Blk.cell h 3; simpa using this
end
/-- How many tokens there are, now. -/
def tk (D E N T now : Int) : Int := if T + (now / E - N / E) < D then T + (now / E - N / E) else D
theorem goOn_ok (b : Nat) (D E N T now : Int) (w : World) (hb : Bk w b D E N T) (h0 : 0 ≤ N) (h1 : N ≤ now) (h2 : now < 4611686018427387904) (hE : 1 ≤ E) (hT : 0 ≤ T) (hT2 : T ≤ D) (hD : D ≤ 1000) :
    Calls Try.prog 48 #[.pointer (some ⟨b, 0, none⟩), .int .u64 now] w fun e w' => e = .returned (.int .i64 0) ∧ Bk w' b D E now (tk D E N T now) ∧ Only b w w' := by
  have m0 : 0 ≤ N / E := Int.ediv_nonneg (by omega) (by omega)
  have m1 : N / E ≤ now / E := Int.ediv_le_ediv (by omega) h1
  have m2 : now / E ≤ now := Int.ediv_le_self _ (by omega)
  have c0 := hb.cell 0
  have c1 := hb.cell 1
  have c2 := hb.cell 2
  have c3 := hb.cell 3
  have f0 := hb.frozen 2
  have f1 := hb.frozen 3
  simp at c0 c1 c2 c3
  have d1 : decide (now < N) = false := decide_eq_false (by omega)
  have d2 : decide (now < 4611686018427387904) = true := decide_eq_true h2
  have z0 : (E == 0) = false := beq_eq_false_iff_ne.2 (by omega)
  go_enter Try.func48, Try.ntmps48
  go_wp2
  go_quiet (fail)
  go_wp2
  go_region
  go_wp2
  · go_ret
    exact ⟨rfl, by unfold Bk tk; rw [if_pos (by assumption)]; exact ((hb.drewN _).set_ 3 _).set_ 2 _, (((Only.refl _ _).drewN _).set_ 3 _).set_ 2 _⟩
  · go_ret
    exact ⟨rfl, by unfold Bk tk; rw [if_neg (by omega)]; exact ((hb.drewN _).set_ 3 _).set_ 2 _, (((Only.refl _ _).drewN _).set_ 3 _).set_ 2 _⟩
theorem goOn_hor (b : Nat) (now : Int) (w : World) (h2 : ¬ now < 4611686018427387904) :
    Calls Try.prog 48 #[.pointer (some ⟨b, 0, none⟩), .int .u64 now] w fun e w' => e = .returned (.int .i64 2) ∧ w = w' := by
  have d2 : decide (now < 4611686018427387904) = false := decide_eq_false h2
  go_enter Try.func48, Try.ntmps48
  go_wp2
  go_ret
  exact ⟨rfl, rfl⟩
theorem goOn_arg (b : Nat) (D E N T now : Int) (w : World) (hb : Bk w b D E N T) (h1 : now < N) (h2 : now < 4611686018427387904) :
    Calls Try.prog 48 #[.pointer (some ⟨b, 0, none⟩), .int .u64 now] w fun e w' => e = .returned (.int .i64 1) ∧ w = w' := by
  have c2 := hb.cell 2
  simp at c2
  have d1 : decide (now < N) = true := decide_eq_true h1
  have d2 : decide (now < 4611686018427387904) = true := decide_eq_true h2
  go_enter Try.func48, Try.ntmps48
  go_wp2
  go_ret
  exact ⟨rfl, rfl⟩
theorem tk_bd {D E N T now : Int} (h0 : 0 ≤ N) (h1 : N ≤ now) (hE : 1 ≤ E) (hT : 0 ≤ T) (hT2 : T ≤ D) : 0 ≤ tk D E N T now ∧ tk D E N T now ≤ D := by
  have m1 : N / E ≤ now / E := Int.ediv_le_ediv (by omega) h1
  unfold tk; split <;> omega
theorem may_yes (d e : Int) (w : World) (h : 1 ≤ d ∧ d ≤ 1000 ∧ 1 ≤ e ∧ e ≤ 1099511627776) : Calls Try.prog 34 #[.int .i64 d, .int .u64 e] w fun r w' => r = .returned (.bool true) ∧ w = w' := by
  obtain ⟨h1, h2, h3, h4⟩ := h
  go_enter Try.func34, Try.ntmps34
  go_wp2
  go_ret
  exact ⟨by simp, rfl⟩
theorem may_no (d e : Int) (w : World) (h : ¬ (1 ≤ d ∧ d ≤ 1000 ∧ 1 ≤ e ∧ e ≤ 1099511627776)) : Calls Try.prog 34 #[.int .i64 d, .int .u64 e] w fun r w' => r = .returned (.bool false) ∧ w = w' := by
  by_cases h1 : 1 ≤ d
  · by_cases h2 : d ≤ 1000
    · by_cases h3 : 1 ≤ e
      · have h4 : decide (e ≤ 1099511627776) = false := decide_eq_false (by omega)
        clear h
        go_enter Try.func34, Try.ntmps34
        go_wp2
        go_ret
        exact ⟨rfl, rfl⟩
      · clear h
        go_enter Try.func34, Try.ntmps34
        go_wp2
        go_ret
        exact ⟨rfl, rfl⟩
    · clear h
      go_enter Try.func34, Try.ntmps34
      go_wp2
      go_ret
      exact ⟨rfl, rfl⟩
  · clear h
    go_enter Try.func34, Try.ntmps34
    go_wp2
    go_ret
    exact ⟨rfl, rfl⟩
theorem new_ok (d e : Int) (w : World) (h : 1 ≤ d ∧ d ≤ 1000 ∧ 1 ≤ e ∧ e ≤ 1099511627776) :
    Calls Try.prog 23 #[.int .i64 d, .int .u64 e] w fun r w' => r = .returned (.tuple #[.pointer (some ⟨w.heap.size, 0, none⟩), .int .i64 0]) ∧ Bk w' w.heap.size d e 0 d ∧ w.heap.size < w'.heap.size ∧ Below w.heap.size w w' := by
  obtain ⟨h1, h2, h3, h4⟩ := id h
  go_enter Try.func23, Try.ntmps23
  go_wp2_with (go_at_call 34; refine (may_yes _ _ _ h).mono ?_; rintro r w' ⟨rfl, rfl⟩)
  go_ret2
  exact ⟨rfl, Blk.new _ _ _, by simp, (Below.refl _ _).alloc (Nat.le_refl _) _⟩
theorem new_no (d e : Int) (w : World) (h : ¬ (1 ≤ d ∧ d ≤ 1000 ∧ 1 ≤ e ∧ e ≤ 1099511627776)) :
    Calls Try.prog 23 #[.int .i64 d, .int .u64 e] w fun r w' => r = .returned (.tuple #[.pointer none, .int .i64 1]) ∧ w = w' := by
  go_enter Try.func23, Try.ntmps23
  go_wp2_with (go_at_call 34; refine (may_no _ _ _ h).mono ?_; rintro r w' ⟨rfl, rfl⟩)
  go_ret2
  exact ⟨rfl, rfl⟩
/-- What holds of a bucket between two calls. -/
def BkOK (D E N T : Int) : Prop := 1 ≤ D ∧ D ≤ 1000 ∧ 1 ≤ E ∧ E ≤ 1099511627776 ∧ 0 ≤ N ∧ 0 ≤ T ∧ T ≤ D
theorem take_yes (b : Nat) (D E N T now : Int) (w : World) (hb : Bk w b D E N T) (ho : BkOK D E N T) (h1 : N ≤ now) (h2 : now < 4611686018427387904) (ht : 1 ≤ tk D E N T now) :
    Calls Try.prog 41 #[.pointer (some ⟨b, 0, none⟩), .int .u64 now] w fun e w' => e = .returned (.tuple #[.bool true, .int .i64 0]) ∧ Bk w' b D E now (tk D E N T now - 1) ∧ Only b w w' := by
  obtain ⟨g1, g2, g3, g4, g5, g6, g7⟩ := ho
  have bd := tk_bd g5 h1 g3 g6 g7
  have z0 : (tk D E N T now == 0) = false := beq_eq_false_iff_ne.2 (by omega)
  go_enter Try.func41, Try.ntmps41
  go_wp2_with (go_at_call 48; refine (goOn_ok b D E N T now _ hb g5 h1 h2 g3 g6 g7 g2).mono ?_; rintro e w1 ⟨rfl, hb1, ho1⟩; have c0 := hb1.c0; have c1 := hb1.c1; have c2 := hb1.c2; have c3 := hb1.c3; have f3 := Blk.frozen hb1 3)
  go_ret2
  exact ⟨rfl, hb1.set_ 3 _, ho1.set_ 3 _⟩
theorem take_no (b : Nat) (D E N T now : Int) (w : World) (hb : Bk w b D E N T) (ho : BkOK D E N T) (h1 : N ≤ now) (h2 : now < 4611686018427387904) (ht : tk D E N T now = 0) :
    Calls Try.prog 41 #[.pointer (some ⟨b, 0, none⟩), .int .u64 now] w fun e w' => e = .returned (.tuple #[.bool false, .int .i64 0]) ∧ Bk w' b D E now 0 ∧ Only b w w' := by
  obtain ⟨g1, g2, g3, g4, g5, g6, g7⟩ := ho
  have HT := Lib.hid ht
  clear ht
  go_enter Try.func41, Try.ntmps41
  go_wp2_with (go_at_call 48; refine (goOn_ok b D E N T now _ hb g5 h1 h2 g3 g6 g7 g2).mono ?_; rintro e w1 ⟨rfl, hb1, ho1⟩; rw [HT.out] at hb1; have c0 := hb1.c0; have c1 := hb1.c1; have c2 := hb1.c2; have c3 := hb1.c3; have f3 := Blk.frozen hb1 3)
  go_ret2
  exact ⟨rfl, hb1, ho1⟩
theorem wait_now (b : Nat) (D E N T now : Int) (w : World) (hb : Bk w b D E N T) (ho : BkOK D E N T) (h1 : N ≤ now) (h2 : now < 4611686018427387904) (ht : 1 ≤ tk D E N T now) :
    Calls Try.prog 40 #[.pointer (some ⟨b, 0, none⟩), .int .u64 now] w fun e w' => e = .returned (.tuple #[.int .u64 now, .int .i64 0]) ∧ Bk w' b D E now (tk D E N T now) ∧ Only b w w' := by
  obtain ⟨g1, g2, g3, g4, g5, g6, g7⟩ := ho
  have c0 := hb.c0
  have c1 := hb.c1
  have c2 := hb.c2
  have c3 := hb.c3
  have bd := tk_bd g5 h1 g3 g6 g7
  go_enter Try.func40, Try.ntmps40
  go_wp2_with (go_at_call 48; refine (goOn_ok b D E N T now _ (Blk.alloc hb _) g5 h1 h2 g3 g6 g7 g2).mono ?_; rintro e w1 ⟨rfl, hb1, ho1⟩; have c0 := hb1.c0; have c1 := hb1.c1; have c2 := hb1.c2; have c3 := hb1.c3; have f3 := Blk.frozen hb1 3)
  go_ret2
  exact ⟨rfl, hb1, ((Only.refl _ _).alloc _).trans ho1⟩
theorem wait_next (b : Nat) (D E N T now : Int) (w : World) (hb : Bk w b D E N T) (ho : BkOK D E N T) (h1 : N ≤ now) (h2 : now < 4611686018427387904) (ht : tk D E N T now = 0) (hl : now / E * E + E < 4611686018427387904) :
    Calls Try.prog 40 #[.pointer (some ⟨b, 0, none⟩), .int .u64 now] w fun e w' => e = .returned (.tuple #[.int .u64 (now / E * E + E), .int .i64 0]) ∧ Bk w' b D E now 0 ∧ Only b w w' := by
  obtain ⟨g1, g2, g3, g4, g5, g6, g7⟩ := ho
  have c0 := hb.c0
  have c1 := hb.c1
  have c2 := hb.c2
  have c3 := hb.c3
  have HT := Lib.hid ht
  clear ht
  have NX := Lib.hid fun w => next_ok now 0 E w (by omega) (by omega) h2 ⟨g3, by omega⟩ (by simpa using hl)
  simp only [Int.sub_zero, Int.zero_add] at NX
  go_enter Try.func40, Try.ntmps40
  go_wp2_with (first | (go_at_call 48; refine (goOn_ok b D E N T now _ (Blk.alloc hb _) g5 h1 h2 g3 g6 g7 g2).mono ?_; rintro e w1 ⟨rfl, hb1, ho1⟩; rw [HT.out] at hb1; have c0 := hb1.c0; have c1 := hb1.c1; have c2 := hb1.c2; have c3 := hb1.c3; have f3 := Blk.frozen hb1 3) | (go_at_call 49; refine (NX.out _).mono ?_; rintro e w2 ⟨rfl, rfl⟩))
  go_ret2
  exact ⟨rfl, hb1, ((Only.refl _ _).alloc _).trans ho1⟩
end Go.Proofs.Ytaoioejgealciaa.bu
