/- Contracts of layer 5's functions: a meter is one block of six numbers. -/
import Derived.Test.YtabocojmobbpaaaTickC
import Derived.Test.YtabocojmobbpaaaObj
import Derived.WalkLawsBesides
import Derived.WalkSpells
import Derived.BigQuiet
import Derived.RegionTactic
import Derived.Outline
namespace Go.Proofs.Ytabocojmobbpaaa
open Go.RowKit
set_option linter.unusedVariables false
/-- The meter in block b: budget, period, phase, now, window, taken. -/
def Mk (w : World) (b : Nat) (B P ph N W T : Int) : Prop := Blk w b 91 #[.int .u64 B, .int .u64 P, .int .u64 ph, .int .u64 N, .int .u64 W, .int .u64 T]
section
variable {w : World} {b : Nat} {B P ph N W T : Int}
theorem Mk.c0 (h : Mk w b B P ph N W T) : w.cell? ⟨b, 0, none⟩ = some (.int .u64 B) := by have := Blk.cell h 0; simpa using this
theorem Mk.c1 (h : Mk w b B P ph N W T) : w.cell? ⟨b, 1, none⟩ = some (.int .u64 P) := by have := Blk.cell h 1; simpa using this
theorem Mk.c2 (h : Mk w b B P ph N W T) : w.cell? ⟨b, 2, none⟩ = some (.int .u64 ph) := by have := Blk.cell h 2; simpa using this
theorem Mk.c3 (h : Mk w b B P ph N W T) : w.cell? ⟨b, 3, none⟩ = some (.int .u64 N) := by have := Blk.cell h 3; simpa using this
theorem Mk.c4 (h : Mk w b B P ph N W T) : w.cell? ⟨b, 4, none⟩ = some (.int .u64 W) := by have := Blk.cell h 4; simpa using this
theorem Mk.c5 (h : Mk w b B P ph N W T) : w.cell? ⟨b, 5, none⟩ = some (.int .u64 T) := by have := Blk.cell h 5; simpa using this
end
theorem goOn_same (b : Nat) (B P ph N T now : Int) (w : World) (hb : Mk w b B P ph N ((now - ph) / P) T) (h0 : 0 ≤ ph) (h1 : ph ≤ now) (h2 : now < 4611686018427387904) (hP : 1 ≤ P ∧ P ≤ 4611686018427387904) :
    Calls Try.prog 44 #[.pointer (some ⟨b, 0, none⟩), .int .u64 now] w fun e w' => e = .returned (.tuple #[]) ∧ Mk w' b B P ph now ((now - ph) / P) T ∧ Only b w w' := by
  have c0 := hb.c0
  have c1 := hb.c1
  have c2 := hb.c2
  have c3 := hb.c3
  have c4 := hb.c4
  have c5 := hb.c5
  have f3 := Blk.frozen hb 3
  go_enter Try.func44, Try.ntmps44
  have z0 : ((now - ph) / P != (now - ph) / P) = false := by simp
  go_wp2_with fail
  go_quiet ((go_at_call 45; exact q_left (window_ok _ _ _ _ h0 h1 h2 hP)))
  go_wp2
  go_end0
  exact ⟨rfl, (hb.drewN _).set_ 3 _, ((Only.refl _ _).drewN _).set_ 3 _⟩
theorem goOn_new (b : Nat) (B P ph N W T now : Int) (w : World) (hb : Mk w b B P ph N W T) (h0 : 0 ≤ ph) (h1 : ph ≤ now) (h2 : now < 4611686018427387904) (hP : 1 ≤ P ∧ P ≤ 4611686018427387904) (hW : W ≠ (now - ph) / P) :
    Calls Try.prog 44 #[.pointer (some ⟨b, 0, none⟩), .int .u64 now] w fun e w' => e = .returned (.tuple #[]) ∧ Mk w' b B P ph now ((now - ph) / P) 0 ∧ Only b w w' := by
  have c0 := hb.c0
  have c1 := hb.c1
  have c2 := hb.c2
  have c3 := hb.c3
  have c4 := hb.c4
  have c5 := hb.c5
  have f3 := Blk.frozen hb 3
  have f4 := Blk.frozen hb 4
  have f5 := Blk.frozen hb 5
  have z0 : ((now - ph) / P != W) = true := bne_iff_ne.2 (Ne.symm hW)
  clear hW
  go_enter Try.func44, Try.ntmps44
  go_wp2_with fail
  go_quiet ((go_at_call 45; exact q_left (window_ok _ _ _ _ h0 h1 h2 hP)))
  go_wp2
  go_end0
  exact ⟨rfl, (((hb.drewN _).set_ 4 _).set_ 5 _).set_ 3 _, ((((Only.refl _ _).drewN _).set_ 4 _).set_ 5 _).set_ 3 _⟩
/-- How many were taken in the window K, when those of window W were T. -/
def tkn (W T K : Int) : Int := if W = K then T else 0
theorem goOn_any (b : Nat) (B P ph N W T now : Int) (w : World) (hb : Mk w b B P ph N W T) (h0 : 0 ≤ ph) (h1 : ph ≤ now) (h2 : now < 4611686018427387904) (hP : 1 ≤ P ∧ P ≤ 4611686018427387904) :
    Calls Try.prog 44 #[.pointer (some ⟨b, 0, none⟩), .int .u64 now] w fun e w' => e = .returned (.tuple #[]) ∧ Mk w' b B P ph now ((now - ph) / P) (tkn W T ((now - ph) / P)) ∧ Only b w w' := by
  unfold tkn
  by_cases h : W = (now - ph) / P
  · subst h; rw [if_pos rfl]; exact goOn_same b B P ph N T now w hb h0 h1 h2 hP
  · rw [if_neg h]; exact goOn_new b B P ph N W T now w hb h0 h1 h2 hP h
theorem tmay_yes (t : Int) (w : World) (h : t < 4611686018427387904) : Calls Try.prog 25 #[.int .u64 t] w fun e w' => e = .returned (.bool true) ∧ w = w' :=
  (may_any t w).mono fun _ _ ⟨he, hw⟩ => ⟨by rw [he, decide_eq_true h], hw⟩
/-- What holds of a meter between two calls. -/
def MOK (B P ph N W T : Int) : Prop := 1 ≤ B ∧ B ≤ P ∧ P ≤ 1099511627776 ∧ 0 ≤ ph ∧ ph ≤ N ∧ 0 ≤ T ∧ T ≤ B
theorem tkn_bd {W T K B : Int} (h0 : 0 ≤ T) (h1 : T ≤ B) : 0 ≤ tkn W T K ∧ tkn W T K ≤ B := by unfold tkn; split <;> omega
theorem may_yes (B P : Int) (w : World) (h : 1 ≤ B ∧ B ≤ P ∧ P ≤ 1099511627776) :
    Calls Try.prog 22 #[.agg #[.int .u64 B, .int .u64 P]] w fun e w' => e = .returned (.bool true) ∧ Below w.heap.size w w' := by
  have d1 : decide (1 ≤ P) = true := decide_eq_true (by omega)
  have d2 : decide (P ≤ 1099511627776) = true := decide_eq_true h.2.2
  have d3 : decide (1 ≤ B) = true := decide_eq_true h.1
  have d4 : decide (B ≤ P) = true := decide_eq_true h.2.1
  go_enter Try.func22, Try.ntmps22
  go_wp2
  go_ret
  exact ⟨rfl, (Below.refl _ _).alloc (Nat.le_refl _) _⟩
theorem may_no (B P : Int) (w : World) (h : ¬ (1 ≤ B ∧ B ≤ P ∧ P ≤ 1099511627776)) :
    Calls Try.prog 22 #[.agg #[.int .u64 B, .int .u64 P]] w fun e w' => e = .returned (.bool false) ∧ Below w.heap.size w w' := by
  by_cases h1 : 1 ≤ P
  · have d1 : decide (1 ≤ P) = true := decide_eq_true h1
    by_cases h2 : P ≤ 1099511627776
    · have d2 : decide (P ≤ 1099511627776) = true := decide_eq_true h2
      by_cases h3 : 1 ≤ B
      · have d3 : decide (1 ≤ B) = true := decide_eq_true h3
        have d4 : decide (B ≤ P) = false := decide_eq_false (by omega)
        clear h
        go_enter Try.func22, Try.ntmps22
        go_wp2
        go_ret
        exact ⟨rfl, (Below.refl _ _).alloc (Nat.le_refl _) _⟩
      · have d3 : decide (1 ≤ B) = false := decide_eq_false h3
        clear h
        go_enter Try.func22, Try.ntmps22
        go_wp2
        go_ret
        exact ⟨rfl, (Below.refl _ _).alloc (Nat.le_refl _) _⟩
    · have d2 : decide (P ≤ 1099511627776) = false := decide_eq_false h2
      clear h
      go_enter Try.func22, Try.ntmps22
      go_wp2
      go_ret
      exact ⟨rfl, (Below.refl _ _).alloc (Nat.le_refl _) _⟩
  · have d1 : decide (1 ≤ P) = false := decide_eq_false h1
    clear h
    go_enter Try.func22, Try.ntmps22
    go_wp2
    go_ret
    exact ⟨rfl, (Below.refl _ _).alloc (Nat.le_refl _) _⟩
theorem tell_left (b : Nat) (B P ph N W T now v : Int) (w : World) (hb : Mk w b B P ph N W T) (ho : MOK B P ph N W T) (h1 : N ≤ now) (h2 : now < 4611686018427387904) 
    (hc : ∀ w1, Below w.heap.size w w1 → Calls Try.prog 41 #[.int .u64 (B - tkn W T ((now - ph) / P))] w1 fun e w' => e = .returned (.tuple #[.int .u64 v, .int .i64 0]) ∧ Below w1.heap.size w1 w') :
    Calls Try.prog 40 #[.pointer (some ⟨b, 0, none⟩), .int .u64 now, (.func (Fn.func 41) #[] #[])] w fun e w' => e = .returned (.tuple #[.int .u64 v, .int .i64 0]) ∧ Mk w' b B P ph now ((now - ph) / P) (tkn W T ((now - ph) / P)) ∧ Only b w w' := by
  obtain ⟨g1, g2, g3, g4, g5, g6, g7⟩ := ho
  have bd := tkn_bd (W := W) (K := (now - ph) / P) g6 g7
  have HC := Lib.hid hc
  clear hc
  have c0 := hb.c0
  have c1 := hb.c1
  have c2 := hb.c2
  have c3 := hb.c3
  have c4 := hb.c4
  have c5 := hb.c5
  have hbl := hb.lt
  have d1 : decide (now < N) = false := decide_eq_false (by omega)
  go_enter Try.func40, Try.ntmps40
  go_wp2_with (first | (go_at_call 25; refine (tmay_yes _ _ h2).mono ?_; rintro e w' ⟨rfl, rfl⟩) | (go_at_call 44; refine (goOn_any w.heap.size B P ph N W T now _ (Blk.new _ _ _) g4 (by omega) h2 (by omega)).mono ?_; rintro e w1 ⟨rfl, hb1, ho1⟩; have e0 := hb1.c0; have e5 := hb1.c5))
  have hw1 : Below w.heap.size w w1 := ((Below.refl _ _).alloc (Nat.le_refl _) _).trans (ho1.below (Nat.le_refl _) (by simp))
  have hm1 : Mk w1 b B P ph N W T := ho1.blk (Blk.alloc hb _) (by omega)
  refine (HC.out _ hw1).mono ?_
  rintro e w2 ⟨rfl, hb2⟩
  have hm2 : Mk w2 b B P ph N W T := Blk.below hm1 hb2 hm1.lt
  have hn2 : Mk w2 w.heap.size B P ph now ((now - ph) / P) (tkn W T ((now - ph) / P)) := Blk.below hb1 hb2 hb1.lt
  have hw2 : Below w.heap.size w w2 := hw1.trans (hb2.mono hw1.size)
  clear c0 c1 c2 c3 c4 c5 e0 e5
  have c0 := hm2.c0
  have c1 := hm2.c1
  have c2 := hm2.c2
  have c3 := hm2.c3
  have c4 := hm2.c4
  have c5 := hm2.c5
  have f0 := Blk.frozen hm2 0
  have f1 := Blk.frozen hm2 1
  have f2 := Blk.frozen hm2 2
  have f3 := Blk.frozen hm2 3
  have f4 := Blk.frozen hm2 4
  have f5 := Blk.frozen hm2 5
  have e0 := hn2.c0
  have e1 := hn2.c1
  have e2 := hn2.c2
  have e3 := hn2.c3
  have e4 := hn2.c4
  have e5 := hn2.c5
  go_wp2
  go_ret2
  exact ⟨rfl, (((((hm2.set_ 0 _).set_ 1 _).set_ 2 _).set_ 3 _).set_ 4 _).set_ 5 _, ((((((Only.of_below hw2 b).set_ 0 _).set_ 1 _).set_ 2 _).set_ 3 _).set_ 4 _).set_ 5 _⟩
theorem tell_take (b : Nat) (p : Nat) (B P ph N W T now v : Int) (w : World) (hb : Mk w b B P ph N W T) (ho : MOK B P ph N W T) (h1 : N ≤ now) (h2 : now < 4611686018427387904) 
    (hc : ∀ w1, Below w.heap.size w w1 → Calls Try.prog 42 #[.int .u64 (B - tkn W T ((now - ph) / P)), .pointer (some ⟨p, 0, none⟩)] w1 fun e w' => e = .returned (.tuple #[.int .u64 v, .int .i64 0]) ∧ Below w1.heap.size w1 w') :
    Calls Try.prog 40 #[.pointer (some ⟨b, 0, none⟩), .int .u64 now, (.func (Fn.func 42) #[] #[.pointer (some ⟨p, 0, none⟩)])] w fun e w' => e = .returned (.tuple #[.int .u64 v, .int .i64 0]) ∧ Mk w' b B P ph now ((now - ph) / P) (tkn W T ((now - ph) / P)) ∧ Only b w w' := by
  obtain ⟨g1, g2, g3, g4, g5, g6, g7⟩ := ho
  have bd := tkn_bd (W := W) (K := (now - ph) / P) g6 g7
  have HC := Lib.hid hc
  clear hc
  have c0 := hb.c0
  have c1 := hb.c1
  have c2 := hb.c2
  have c3 := hb.c3
  have c4 := hb.c4
  have c5 := hb.c5
  have hbl := hb.lt
  have d1 : decide (now < N) = false := decide_eq_false (by omega)
  go_enter Try.func40, Try.ntmps40
  go_wp2_with (first | (go_at_call 25; refine (tmay_yes _ _ h2).mono ?_; rintro e w' ⟨rfl, rfl⟩) | (go_at_call 44; refine (goOn_any w.heap.size B P ph N W T now _ (Blk.new _ _ _) g4 (by omega) h2 (by omega)).mono ?_; rintro e w1 ⟨rfl, hb1, ho1⟩; have e0 := hb1.c0; have e5 := hb1.c5))
  have hw1 : Below w.heap.size w w1 := ((Below.refl _ _).alloc (Nat.le_refl _) _).trans (ho1.below (Nat.le_refl _) (by simp))
  have hm1 : Mk w1 b B P ph N W T := ho1.blk (Blk.alloc hb _) (by omega)
  refine (HC.out _ hw1).mono ?_
  rintro e w2 ⟨rfl, hb2⟩
  have hm2 : Mk w2 b B P ph N W T := Blk.below hm1 hb2 hm1.lt
  have hn2 : Mk w2 w.heap.size B P ph now ((now - ph) / P) (tkn W T ((now - ph) / P)) := Blk.below hb1 hb2 hb1.lt
  have hw2 : Below w.heap.size w w2 := hw1.trans (hb2.mono hw1.size)
  clear c0 c1 c2 c3 c4 c5 e0 e5
  have c0 := hm2.c0
  have c1 := hm2.c1
  have c2 := hm2.c2
  have c3 := hm2.c3
  have c4 := hm2.c4
  have c5 := hm2.c5
  have f0 := Blk.frozen hm2 0
  have f1 := Blk.frozen hm2 1
  have f2 := Blk.frozen hm2 2
  have f3 := Blk.frozen hm2 3
  have f4 := Blk.frozen hm2 4
  have f5 := Blk.frozen hm2 5
  have e0 := hn2.c0
  have e1 := hn2.c1
  have e2 := hn2.c2
  have e3 := hn2.c3
  have e4 := hn2.c4
  have e5 := hn2.c5
  go_wp2
  go_ret2
  exact ⟨rfl, (((((hm2.set_ 0 _).set_ 1 _).set_ 2 _).set_ 3 _).set_ 4 _).set_ 5 _, ((((((Only.of_below hw2 b).set_ 0 _).set_ 1 _).set_ 2 _).set_ 3 _).set_ 4 _).set_ 5 _⟩
theorem left_then (l : Int) (w : World) : Calls Try.prog 41 #[.int .u64 l] w fun e w' => e = .returned (.tuple #[.int .u64 l, .int .i64 0]) ∧ Below w.heap.size w w' := by
  go_enter Try.func41, Try.ntmps41
  go_wp2
  go_ret2
  exact ⟨rfl, Below.refl _ _⟩
def mn (n l : Int) : Int := if n < l then n else l
theorem mn_bd {n l : Int} (h0 : 0 ≤ n) (h1 : 0 ≤ l) : 0 ≤ mn n l ∧ mn n l ≤ l ∧ mn n l ≤ n := by unfold mn; split <;> omega
theorem take_then (l n : Int) (p : Nat) (w : World) (hp : w.cell? ⟨p, 0, none⟩ = some (.int .u64 n)) : Calls Try.prog 42 #[.int .u64 l, .pointer (some ⟨p, 0, none⟩)] w fun e w' => e = .returned (.tuple #[.int .u64 (mn n l), .int .i64 0]) ∧ Below w.heap.size w w' := by
  by_cases h : n < l
  · have e : mn n l = n := if_pos h
    rw [e]
    clear e
    go_enter Try.func42, Try.ntmps42
    go_wp2
    go_ret2
    exact ⟨rfl, Below.refl _ _⟩
  · have e : mn n l = l := if_neg h
    rw [e]
    clear e
    by_cases h2 : l < n
    · go_enter Try.func42, Try.ntmps42
      go_wp2
      go_ret2
      exact ⟨rfl, Below.refl _ _⟩
    · obtain rfl : n = l := by omega
      go_enter Try.func42, Try.ntmps42
      go_wp2
      go_ret2
      exact ⟨rfl, Below.refl _ _⟩
theorem left_ok (b : Nat) (B P ph N W T now : Int) (w : World) (hb : Mk w b B P ph N W T) (ho : MOK B P ph N W T) (h1 : N ≤ now) (h2 : now < 4611686018427387904) :
    Calls Try.prog 37 #[.pointer (some ⟨b, 0, none⟩), .int .u64 now] w fun e w' => e = .returned (.tuple #[.int .u64 (B - tkn W T ((now - ph) / P)), .int .i64 0]) ∧ Mk w' b B P ph now ((now - ph) / P) (tkn W T ((now - ph) / P)) ∧ Only b w w' := by
  go_enter Try.func37, Try.ntmps37
  go_wp2_with fail
  refine (tell_left b B P ph N W T now _ _ hb ho h1 h2 fun w1 _ => left_then _ w1).mono ?_
  rintro e w1 ⟨rfl, hb1, ho1⟩
  go_wp2_with fail
  go_ret2
  exact ⟨rfl, hb1, ho1⟩
theorem take_ok (b : Nat) (B P ph N W T now n : Int) (w : World) (hb : Mk w b B P ph N W T) (ho : MOK B P ph N W T) (h1 : N ≤ now) (h2 : now < 4611686018427387904) (hn : 0 ≤ n) :
    Calls Try.prog 38 #[.pointer (some ⟨b, 0, none⟩), .int .u64 now, .int .u64 n] w fun e w' => e = .returned (.tuple #[.int .u64 (mn n (B - tkn W T ((now - ph) / P))), .int .i64 0]) ∧
      Mk w' b B P ph now ((now - ph) / P) (tkn W T ((now - ph) / P) + mn n (B - tkn W T ((now - ph) / P))) ∧ Only b w w' := by
  have hbl := hb.lt
  obtain ⟨g1, g2, g3, g4, g5, g6, g7⟩ := id ho
  have bd := tkn_bd (W := W) (K := (now - ph) / P) g6 g7
  have bd2 := mn_bd (n := n) (l := B - tkn W T ((now - ph) / P)) hn (by omega)
  go_enter Try.func38, Try.ntmps38
  go_wp2_with fail
  refine (tell_take b w.heap.size B P ph N W T now _ _ (Blk.alloc hb _) ho h1 h2 fun w1 hw1 => take_then _ n _ w1 ?_).mono ?_
  · exact (hw1.cell (p := ⟨w.heap.size, 0, none⟩) (by simp)).trans (by simp)
  · rintro e w1 ⟨rfl, hb1, ho1⟩
    generalize ht : tkn W T ((now - ph) / P) = t at *
    generalize hm : mn n (B - t) = m at *
    have HT := Lib.hid ht
    have HM := Lib.hid hm
    clear ht hm
    have c5 := hb1.c5
    have f5 := Blk.frozen hb1 5
    go_wp2
    go_ret2
    exact ⟨by rw [HT.out, HM.out]; rfl, by rw [HT.out, HM.out]; exact Blk.set_ hb1 5 _, (((Only.refl _ _).alloc _).trans ho1).set_ 5 _⟩
end Go.Proofs.Ytabocojmobbpaaa
