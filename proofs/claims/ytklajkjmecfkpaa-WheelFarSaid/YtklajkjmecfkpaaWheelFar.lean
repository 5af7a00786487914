/-
  For every two unsigned 64-bit numbers WheelFar answers true, and changes nothing: of two timers, however far, the earlier one goes off first, and the other one stays till its own time. No condition.
-/
import Derived.Test.YtklajkjmecfkpaaRows
import Derived.Test.YtklajkjmecfkpaaFr
import Derived.Test.YtklajkjmecfkpaaWhK
namespace Go.Proofs.Ytklajkjmecfkpaa.wheelFar
open Go.ChangeShapes Go.WideShapes Go.ChangeAt Go.RowKit
set_option linter.unusedVariables false
theorem own : ownKnob Try.prog.godebug = none := by kernel_rfl
theorem laid : laidOutB Try.prog = true := by kernel_rfl
set_option maxRecDepth 100000
set_option maxHeartbeats 4000000
theorem set1 (a : Int) : setA 0 1 a = 0 ∧ 0 < a ∧ a < 4611686018427387904 ∨ setA 0 1 a = 1 ∧ a ≤ 0 ∨ setA 0 1 a = 2 ∧ 4611686018427387904 ≤ a := by
  unfold setA
  by_cases h : a ≤ 0
  · exact Or.inr (Or.inl ⟨if_pos (Or.inr (Or.inr h)), h⟩)
  · rw [if_neg (by omega)]
    by_cases h2 : a < 4611686018427387904
    · exact Or.inl ⟨if_pos h2, by omega, h2⟩
    · exact Or.inr (Or.inr ⟨if_neg h2, by omega⟩)
theorem set2 (a : Int) : setA 0 2 a = setA 0 1 a := by unfold setA; simp
theorem far_T (a b : Int) (h1 : setA 0 1 a = 0) (h2 : setA 0 1 b = 0) : setT 0 (setT 0 (fun _ => none) 1 a) 2 b = T12 a b := by
  unfold setT T12
  rw [set2, h1, h2]; rfl
/-- What goes off when. -/
structure Far (T : Int → Option Int) (m M : Int) (o2 o3 : List Int) : Prop where
  g1 : goA 0 (m - 1) = 0
  g2 : goA (m - 1) m = 0
  g3 : goA m M = 0
  p1 : GoP 0 T (m - 1) []
  p2 : GoP (goN 0 (m - 1)) (goT 0 T (m - 1)) m o2
  p3 : GoP (goN (goN 0 (m - 1)) m) (goT (goN 0 (m - 1)) (goT 0 T (m - 1)) m) M o3
theorem far_of {T : Int → Option Int} {m M : Int} {o2 o3 : List Int} (h1 : 1 ≤ m) (h2 : m ≤ M) (h3 : M < 4611686018427387904) (hT : ∀ i a, T i = some a → m ≤ a) (ho2 : OffP T m o2) (ho3 : OffP (aft T m) M o3) :
    Far T m M o2 o3 ∧ goN 0 (m - 1) = m - 1 ∧ goN (goN 0 (m - 1)) m = m := by
  have g1 : goA 0 (m - 1) = 0 := by unfold goA; rw [if_pos (by omega), if_neg (by omega)]
  have g2 : goA (m - 1) m = 0 := by unfold goA; rw [if_pos (by omega), if_neg (by omega)]
  have g3 : goA m M = 0 := by unfold goA; rw [if_pos (by omega), if_neg (by omega)]
  have n1 : goN 0 (m - 1) = m - 1 := by unfold goN; rw [g1]; rfl
  have n2 : goN (m - 1) m = m := by unfold goN; rw [g2]; rfl
  have e1 : goT 0 T (m - 1) = T := by
    unfold goT; rw [g1, if_pos rfl]
    exact aft_like fun i a h => by have := hT i a h; omega
  have e2 : goT (m - 1) T m = aft T m := by unfold goT; rw [g2, if_pos rfl]
  refine ⟨⟨g1, g2, g3, ?_, ?_, ?_⟩, n1, by rw [n1, n2]⟩
  · unfold GoP; rw [g1, if_pos rfl]
    exact OffP.none fun i a h => by have := hT i a h; omega
  · rw [n1, e1]; unfold GoP; rw [g2, if_pos rfl]; exact ho2
  · rw [n1, n2, e1, e2]; unfold GoP; rw [g3, if_pos rfl]; exact ho3
theorem off12 (a : Int) : OffP (T12 a a) a [1, 2] := by
  refine ⟨?_, fun i => ?_⟩
  · rw [List.pairwise_cons]
    exact ⟨fun j hj => by
      simp at hj; subst hj
      exact Or.inr (by rw [t12_1, t12_2]; exact ⟨rfl, by decide⟩), List.pairwise_singleton _ _⟩
  · simp only [List.mem_cons, List.not_mem_nil, or_false]
    constructor
    · rintro (rfl | rfl)
      · exact ⟨a, t12_1 a a, Int.le_refl _⟩
      · exact ⟨a, t12_2 a a, Int.le_refl _⟩
    · rintro ⟨x, h, -⟩
      rcases t12_o h with ⟨h, _⟩ | ⟨h, _⟩
      · exact Or.inl h
      · exact Or.inr h
theorem far_eq (a : Int) (h0 : 0 < a) (h1 : a < 4611686018427387904) : Far (T12 a a) a a [1, 2] [] ∧ goN 0 (a - 1) = a - 1 ∧ goN (goN 0 (a - 1)) a = a :=
  far_of (by omega) (Int.le_refl _) h1 (fun i x h => by rcases t12_o h with ⟨_, h⟩ | ⟨_, h⟩ <;> omega) (off12 a) (OffP.none fun i x h => (aft_some h).2)
theorem far_lt (a b : Int) (h0 : 0 < a) (hl : a < b) (h1 : b < 4611686018427387904) : Far (T12 a b) a b [1] [2] ∧ goN 0 (a - 1) = a - 1 ∧ goN (goN 0 (a - 1)) a = a :=
  far_of (by omega) (by omega) h1 (fun i x h => by rcases t12_o h with ⟨_, h⟩ | ⟨_, h⟩ <;> omega)
    (offP_one (t12_1 a b) (Int.le_refl _) fun i x hi h => by rcases t12_o h with ⟨h, _⟩ | ⟨_, h⟩; exact absurd h hi; omega)
    (offP_one (aft_at (t12_2 a b) hl) (Int.le_refl _) fun i x hi h => by
      obtain ⟨h, h5⟩ := aft_some h
      rcases t12_o h with ⟨_, h⟩ | ⟨h, _⟩
      · omega
      · exact absurd h hi)
theorem far_gt (a b : Int) (h0 : 0 < b) (hl : b < a) (h1 : a < 4611686018427387904) : Far (T12 a b) b a [2] [1] ∧ goN 0 (b - 1) = b - 1 ∧ goN (goN 0 (b - 1)) b = b :=
  far_of (by omega) (by omega) h1 (fun i x h => by rcases t12_o h with ⟨_, h⟩ | ⟨_, h⟩ <;> omega)
    (offP_one (t12_2 a b) (Int.le_refl _) fun i x hi h => by rcases t12_o h with ⟨_, h⟩ | ⟨h, _⟩; omega; exact absurd h hi)
    (offP_one (aft_at (t12_1 a b) hl) (Int.le_refl _) fun i x hi h => by
      obtain ⟨h, h5⟩ := aft_some h
      rcases t12_o h with ⟨h, _⟩ | ⟨_, h⟩
      · exact absurd h hi
      · omega)
theorem walk (a b : Int) (w : World) (ba : 0 ≤ a ∧ a ≤ 18446744073709551615) (bb : 0 ≤ b ∧ b ≤ 18446744073709551615) :
    Calls Try.prog 7 #[.int .u64 a, .int .u64 b] w fun r w' => r = .returned (.bool true) ∧ Below w.heap.size w w' := by
  obtain ⟨ka, hka⟩ : ∃ k, setA 0 1 a = k := ⟨_, rfl⟩
  obtain ⟨kb, hkb⟩ : ∃ k, setA 0 1 b = k := ⟨_, rfl⟩
  have sa := set1 a
  have sb := set1 b
  rw [hka] at sa
  rw [hkb] at sb
  have KA := Lib.hid hka
  have KB := Lib.hid ((set2 b).trans hkb)
  have KT := Lib.hid (fun (h : ka = 0 ∧ kb = 0) => far_T a b (hka.trans h.1) (hkb.trans h.2))
  clear hka hkb
  have START : ∀ {Q : Int → Int → Prop}, True := fun {Q} => trivial
  clear START
  by_cases hgood : ka = 0 ∧ kb = 0
  · obtain ⟨rfl, rfl⟩ := hgood
    obtain ⟨a0, a1⟩ : 0 < a ∧ a < 4611686018427387904 := by omega
    obtain ⟨b0, b1⟩ : 0 < b ∧ b < 4611686018427387904 := by omega
    have ET := Lib.hid (KT.out ⟨rfl, rfl⟩)
    clear KT sa sb
    rcases Int.lt_trichotomy a b with hl | rfl | hl
    · obtain ⟨hf, hn1, hn2⟩ := far_lt a b a0 hl b1
      have u1 : decide (b < a) = false := decide_eq_false (by omega)
      have u2 : decide (a < b) = true := decide_eq_true (by omega)
      have u3 : (a == b) = false := by simpa using (show a ≠ b by omega)
      have u4 : decide (b ≤ a) = false := decide_eq_false (by omega)
      have u5 : decide (a ≤ b) = true := decide_eq_true (by omega)
      have i1 : min a b = a := Int.min_eq_left (by omega)
      have i2 : max a b = b := Int.max_eq_right (by omega)
      have HF := Lib.hid hf
      have HN1 := Lib.hid hn1
      have HN2 := Lib.hid hn2
      clear hf hn1 hn2
      go_enter Try.func7, Try.ntmps7
      go_wp2_with fail
      refine (awake_c _).mono ?_
      rintro e w1 ⟨rfl, b1⟩
      have S1 := Lib.hid ((St.begin w).stay b1)
      clear b1
      go_wp2_with fail
      refine (New_k S1.out).mono ?_
      rintro e w2 ⟨c, bw, rfl, k2⟩
      have K2 := Lib.hid k2
      clear k2 S1
      go_wp2_with fail
      refine (Set_k K2.out ba.1).mono ?_
      rintro e w3 ⟨rfl, k3⟩
      rw [KA.out]
      have K3 := Lib.hid k3
      clear k3 K2
      go_wp2_with fail
      refine (Set_k K3.out bb.1).mono ?_
      rintro e w4 ⟨rfl, k4⟩
      rw [KB.out]
      rw [ET.out] at k4
      have K4 := Lib.hid k4
      clear k4 K3
      go_wp2_with fail
      refine (Go_k K4.out (by omega)).mono ?_
      rintro e w6 ⟨A6, n6, c6, o6, rfl, g6, hn6, -, k6⟩
      obtain rfl := g6.uniq HF.out.p1
      obtain rfl : 0 = n6 := hn6
      rw [HF.out.g1]
      have K6 := Lib.hid k6
      clear k6 K4 g6
      go_wp2_with fail
      refine (Go_k K6.out (by omega)).mono ?_
      rintro e w7 ⟨A7, n7, c7, o7, rfl, g7, hn7, -, k7⟩
      obtain rfl := g7.uniq HF.out.p2
      simp at hn7
      subst hn7
      rw [HN1.out, HF.out.g2]
      have K7 := Lib.hid k7
      clear k7 K6 g7
      go_wp2_with fail
      refine (Go_k K7.out (by omega)).mono ?_
      rintro e w8 ⟨A8, n8, c8, o8, rfl, g8, hn8, -, k8⟩
      obtain rfl := g8.uniq HF.out.p3
      simp at hn8
      subst hn8
      rw [HN2.out, HF.out.g3]
      obtain ⟨g2, f2, rfl, q2⟩ := k8.list (k := 1) rfl rfl (by omega)
      obtain ⟨g3, f3, rfl, q3⟩ := k8.list (k := 2) rfl rfl (by omega)
      have c2 := q2 0 1 rfl
      have c3 := q3 0 2 rfl
      rw [Nat.add_zero] at c2 c3
      have B8 := Lib.hid k8.below
      clear k8 K7 g8 q2
      go_wp2_with fail
      go_ret
      exact ⟨rfl, B8.out⟩
    · obtain ⟨hf, hn1, hn2⟩ := far_eq a a0 a1
      have u1 : decide (a < a) = false := decide_eq_false (by omega)
      have u4 : decide (a ≤ a) = true := decide_eq_true (by omega)
      have u3 : (a == a) = true := by simp
      have HF := Lib.hid hf
      have HN1 := Lib.hid hn1
      have HN2 := Lib.hid hn2
      clear hf hn1 hn2
      go_enter Try.func7, Try.ntmps7
      go_wp2_with fail
      refine (awake_c _).mono ?_
      rintro e w1 ⟨rfl, b1⟩
      have S1 := Lib.hid ((St.begin w).stay b1)
      clear b1
      go_wp2_with fail
      refine (New_k S1.out).mono ?_
      rintro e w2 ⟨c, bw, rfl, k2⟩
      have K2 := Lib.hid k2
      clear k2 S1
      go_wp2_with fail
      refine (Set_k K2.out ba.1).mono ?_
      rintro e w3 ⟨rfl, k3⟩
      rw [KA.out]
      have K3 := Lib.hid k3
      clear k3 K2
      go_wp2_with fail
      refine (Set_k K3.out bb.1).mono ?_
      rintro e w4 ⟨rfl, k4⟩
      rw [KB.out]
      rw [ET.out] at k4
      have K4 := Lib.hid k4
      clear k4 K3
      go_wp2_with fail
      refine (Go_k K4.out (by omega)).mono ?_
      rintro e w6 ⟨A6, n6, c6, o6, rfl, g6, hn6, -, k6⟩
      obtain rfl := g6.uniq HF.out.p1
      obtain rfl : 0 = n6 := hn6
      rw [HF.out.g1]
      have K6 := Lib.hid k6
      clear k6 K4 g6
      go_wp2_with fail
      refine (Go_k K6.out (by omega)).mono ?_
      rintro e w7 ⟨A7, n7, c7, o7, rfl, g7, hn7, -, k7⟩
      obtain rfl := g7.uniq HF.out.p2
      simp at hn7
      subst hn7
      rw [HN1.out, HF.out.g2]
      have K7 := Lib.hid k7
      clear k7 K6 g7
      go_wp2_with fail
      refine (Go_k K7.out (by omega)).mono ?_
      rintro e w8 ⟨A8, n8, c8, o8, rfl, g8, hn8, -, k8⟩
      obtain rfl := g8.uniq HF.out.p3
      simp at hn8
      subst hn8
      rw [HN2.out, HF.out.g3]
      obtain ⟨g2, f2, rfl, q2⟩ := k8.list (k := 1) rfl rfl (by omega)
      have c2 := q2 0 1 rfl
      have c3 := q2 1 2 rfl
      rw [Nat.add_zero] at c2
      have B8 := Lib.hid k8.below
      clear k8 K7 g8 q2
      go_wp2_with fail
      go_ret
      exact ⟨rfl, B8.out⟩
    · obtain ⟨hf, hn1, hn2⟩ := far_gt a b b0 hl a1
      have u1 : decide (b < a) = true := decide_eq_true (by omega)
      have u2 : decide (a < b) = false := decide_eq_false (by omega)
      have u3 : (a == b) = false := by simpa using (show a ≠ b by omega)
      have u4 : decide (b ≤ a) = true := decide_eq_true (by omega)
      have u5 : decide (a ≤ b) = false := decide_eq_false (by omega)
      have i1 : min a b = b := Int.min_eq_right (by omega)
      have i2 : max a b = a := Int.max_eq_left (by omega)
      have HF := Lib.hid hf
      have HN1 := Lib.hid hn1
      have HN2 := Lib.hid hn2
      clear hf hn1 hn2
      go_enter Try.func7, Try.ntmps7
      go_wp2_with fail
      refine (awake_c _).mono ?_
      rintro e w1 ⟨rfl, b1⟩
      have S1 := Lib.hid ((St.begin w).stay b1)
      clear b1
      go_wp2_with fail
      refine (New_k S1.out).mono ?_
      rintro e w2 ⟨c, bw, rfl, k2⟩
      have K2 := Lib.hid k2
      clear k2 S1
      go_wp2_with fail
      refine (Set_k K2.out ba.1).mono ?_
      rintro e w3 ⟨rfl, k3⟩
      rw [KA.out]
      have K3 := Lib.hid k3
      clear k3 K2
      go_wp2_with fail
      refine (Set_k K3.out bb.1).mono ?_
      rintro e w4 ⟨rfl, k4⟩
      rw [KB.out]
      rw [ET.out] at k4
      have K4 := Lib.hid k4
      clear k4 K3
      go_wp2_with fail
      refine (Go_k K4.out (by omega)).mono ?_
      rintro e w6 ⟨A6, n6, c6, o6, rfl, g6, hn6, -, k6⟩
      obtain rfl := g6.uniq HF.out.p1
      obtain rfl : 0 = n6 := hn6
      rw [HF.out.g1]
      have K6 := Lib.hid k6
      clear k6 K4 g6
      go_wp2_with fail
      refine (Go_k K6.out (by omega)).mono ?_
      rintro e w7 ⟨A7, n7, c7, o7, rfl, g7, hn7, -, k7⟩
      obtain rfl := g7.uniq HF.out.p2
      simp at hn7
      subst hn7
      rw [HN1.out, HF.out.g2]
      have K7 := Lib.hid k7
      clear k7 K6 g7
      go_wp2_with fail
      refine (Go_k K7.out (by omega)).mono ?_
      rintro e w8 ⟨A8, n8, c8, o8, rfl, g8, hn8, -, k8⟩
      obtain rfl := g8.uniq HF.out.p3
      simp at hn8
      subst hn8
      rw [HN2.out, HF.out.g3]
      obtain ⟨g2, f2, rfl, q2⟩ := k8.list (k := 1) rfl rfl (by omega)
      obtain ⟨g3, f3, rfl, q3⟩ := k8.list (k := 2) rfl rfl (by omega)
      have c2 := q2 0 2 rfl
      have c3 := q3 0 1 rfl
      rw [Nat.add_zero] at c2 c3
      have B8 := Lib.hid k8.below
      clear k8 K7 g8 q2
      go_wp2_with fail
      go_ret
      exact ⟨rfl, B8.out⟩
  · have hcode : ∀ (P : Prop) [Decidable P], P → decide P = true := fun P _ h => decide_eq_true h
    clear hcode KT
    rcases sa with ⟨rfl, a0, a1⟩ | ⟨rfl, a0⟩ | ⟨rfl, a0⟩ <;> rcases sb with ⟨rfl, b0, b1⟩ | ⟨rfl, b0⟩ | ⟨rfl, b0⟩
    · exact absurd ⟨rfl, rfl⟩ hgood
    · have u0 : decide (0 < a) = true := decide_eq_true a0
      have u1 : decide (a < 4611686018427387904) = true := decide_eq_true a1
      have u2 : decide (0 < b) = false := decide_eq_false (by omega)
      clear hgood
      go_enter Try.func7, Try.ntmps7
      go_wp2_with fail
      refine (awake_c _).mono ?_
      rintro e w1 ⟨rfl, b1⟩
      have S1 := Lib.hid ((St.begin w).stay b1)
      clear b1
      go_wp2_with fail
      refine (New_k S1.out).mono ?_
      rintro e w2 ⟨c, bw, rfl, k2⟩
      have K2 := Lib.hid k2
      clear k2 S1
      go_wp2_with fail
      refine (Set_k K2.out ba.1).mono ?_
      rintro e w3 ⟨rfl, k3⟩
      rw [KA.out]
      have K3 := Lib.hid k3
      clear k3 K2
      go_wp2_with fail
      refine (Set_k K3.out bb.1).mono ?_
      rintro e w4 ⟨rfl, k4⟩
      rw [KB.out]
      have B4 := Lib.hid k4.below
      clear k4 K3
      go_wp2_with fail
      go_ret
      exact ⟨rfl, B4.out⟩
    · have u0 : decide (0 < a) = true := decide_eq_true a0
      have u1 : decide (a < 4611686018427387904) = true := decide_eq_true a1
      have u2 : decide (0 < b) = true := decide_eq_true (by omega)
      have u3 : decide (b < 4611686018427387904) = false := decide_eq_false (by omega)
      clear hgood
      go_enter Try.func7, Try.ntmps7
      go_wp2_with fail
      refine (awake_c _).mono ?_
      rintro e w1 ⟨rfl, b1⟩
      have S1 := Lib.hid ((St.begin w).stay b1)
      clear b1
      go_wp2_with fail
      refine (New_k S1.out).mono ?_
      rintro e w2 ⟨c, bw, rfl, k2⟩
      have K2 := Lib.hid k2
      clear k2 S1
      go_wp2_with fail
      refine (Set_k K2.out ba.1).mono ?_
      rintro e w3 ⟨rfl, k3⟩
      rw [KA.out]
      have K3 := Lib.hid k3
      clear k3 K2
      go_wp2_with fail
      refine (Set_k K3.out bb.1).mono ?_
      rintro e w4 ⟨rfl, k4⟩
      rw [KB.out]
      have B4 := Lib.hid k4.below
      clear k4 K3
      go_wp2_with fail
      go_ret
      exact ⟨rfl, B4.out⟩
    · have u0 : decide (0 < a) = false := decide_eq_false (by omega)
      have u2 : decide (0 < b) = true := decide_eq_true b0
      have u3 : decide (b < 4611686018427387904) = true := decide_eq_true b1
      clear hgood
      go_enter Try.func7, Try.ntmps7
      go_wp2_with fail
      refine (awake_c _).mono ?_
      rintro e w1 ⟨rfl, b1⟩
      have S1 := Lib.hid ((St.begin w).stay b1)
      clear b1
      go_wp2_with fail
      refine (New_k S1.out).mono ?_
      rintro e w2 ⟨c, bw, rfl, k2⟩
      have K2 := Lib.hid k2
      clear k2 S1
      go_wp2_with fail
      refine (Set_k K2.out ba.1).mono ?_
      rintro e w3 ⟨rfl, k3⟩
      rw [KA.out]
      have K3 := Lib.hid k3
      clear k3 K2
      go_wp2_with fail
      refine (Set_k K3.out bb.1).mono ?_
      rintro e w4 ⟨rfl, k4⟩
      rw [KB.out]
      have B4 := Lib.hid k4.below
      clear k4 K3
      go_wp2_with fail
      go_ret
      exact ⟨rfl, B4.out⟩
    · have u0 : decide (0 < a) = false := decide_eq_false (by omega)
      have u2 : decide (0 < b) = false := decide_eq_false (by omega)
      clear hgood
      go_enter Try.func7, Try.ntmps7
      go_wp2_with fail
      refine (awake_c _).mono ?_
      rintro e w1 ⟨rfl, b1⟩
      have S1 := Lib.hid ((St.begin w).stay b1)
      clear b1
      go_wp2_with fail
      refine (New_k S1.out).mono ?_
      rintro e w2 ⟨c, bw, rfl, k2⟩
      have K2 := Lib.hid k2
      clear k2 S1
      go_wp2_with fail
      refine (Set_k K2.out ba.1).mono ?_
      rintro e w3 ⟨rfl, k3⟩
      rw [KA.out]
      have K3 := Lib.hid k3
      clear k3 K2
      go_wp2_with fail
      refine (Set_k K3.out bb.1).mono ?_
      rintro e w4 ⟨rfl, k4⟩
      rw [KB.out]
      have B4 := Lib.hid k4.below
      clear k4 K3
      go_wp2_with fail
      go_ret
      exact ⟨rfl, B4.out⟩
    · have u0 : decide (0 < a) = false := decide_eq_false (by omega)
      have u2 : decide (0 < b) = true := decide_eq_true (by omega)
      have u3 : decide (b < 4611686018427387904) = false := decide_eq_false (by omega)
      clear hgood
      go_enter Try.func7, Try.ntmps7
      go_wp2_with fail
      refine (awake_c _).mono ?_
      rintro e w1 ⟨rfl, b1⟩
      have S1 := Lib.hid ((St.begin w).stay b1)
      clear b1
      go_wp2_with fail
      refine (New_k S1.out).mono ?_
      rintro e w2 ⟨c, bw, rfl, k2⟩
      have K2 := Lib.hid k2
      clear k2 S1
      go_wp2_with fail
      refine (Set_k K2.out ba.1).mono ?_
      rintro e w3 ⟨rfl, k3⟩
      rw [KA.out]
      have K3 := Lib.hid k3
      clear k3 K2
      go_wp2_with fail
      refine (Set_k K3.out bb.1).mono ?_
      rintro e w4 ⟨rfl, k4⟩
      rw [KB.out]
      have B4 := Lib.hid k4.below
      clear k4 K3
      go_wp2_with fail
      go_ret
      exact ⟨rfl, B4.out⟩
    · have u0 : decide (0 < a) = true := decide_eq_true (by omega)
      have u1 : decide (a < 4611686018427387904) = false := decide_eq_false (by omega)
      have u2 : decide (0 < b) = true := decide_eq_true b0
      have u3 : decide (b < 4611686018427387904) = true := decide_eq_true b1
      clear hgood
      go_enter Try.func7, Try.ntmps7
      go_wp2_with fail
      refine (awake_c _).mono ?_
      rintro e w1 ⟨rfl, b1⟩
      have S1 := Lib.hid ((St.begin w).stay b1)
      clear b1
      go_wp2_with fail
      refine (New_k S1.out).mono ?_
      rintro e w2 ⟨c, bw, rfl, k2⟩
      have K2 := Lib.hid k2
      clear k2 S1
      go_wp2_with fail
      refine (Set_k K2.out ba.1).mono ?_
      rintro e w3 ⟨rfl, k3⟩
      rw [KA.out]
      have K3 := Lib.hid k3
      clear k3 K2
      go_wp2_with fail
      refine (Set_k K3.out bb.1).mono ?_
      rintro e w4 ⟨rfl, k4⟩
      rw [KB.out]
      have B4 := Lib.hid k4.below
      clear k4 K3
      go_wp2_with fail
      go_ret
      exact ⟨rfl, B4.out⟩
    · have u0 : decide (0 < a) = true := decide_eq_true (by omega)
      have u1 : decide (a < 4611686018427387904) = false := decide_eq_false (by omega)
      have u2 : decide (0 < b) = false := decide_eq_false (by omega)
      clear hgood
      go_enter Try.func7, Try.ntmps7
      go_wp2_with fail
      refine (awake_c _).mono ?_
      rintro e w1 ⟨rfl, b1⟩
      have S1 := Lib.hid ((St.begin w).stay b1)
      clear b1
      go_wp2_with fail
      refine (New_k S1.out).mono ?_
      rintro e w2 ⟨c, bw, rfl, k2⟩
      have K2 := Lib.hid k2
      clear k2 S1
      go_wp2_with fail
      refine (Set_k K2.out ba.1).mono ?_
      rintro e w3 ⟨rfl, k3⟩
      rw [KA.out]
      have K3 := Lib.hid k3
      clear k3 K2
      go_wp2_with fail
      refine (Set_k K3.out bb.1).mono ?_
      rintro e w4 ⟨rfl, k4⟩
      rw [KB.out]
      have B4 := Lib.hid k4.below
      clear k4 K3
      go_wp2_with fail
      go_ret
      exact ⟨rfl, B4.out⟩
    · have u0 : decide (0 < a) = true := decide_eq_true (by omega)
      have u1 : decide (a < 4611686018427387904) = false := decide_eq_false (by omega)
      have u2 : decide (0 < b) = true := decide_eq_true (by omega)
      have u3 : decide (b < 4611686018427387904) = false := decide_eq_false (by omega)
      clear hgood
      go_enter Try.func7, Try.ntmps7
      go_wp2_with fail
      refine (awake_c _).mono ?_
      rintro e w1 ⟨rfl, b1⟩
      have S1 := Lib.hid ((St.begin w).stay b1)
      clear b1
      go_wp2_with fail
      refine (New_k S1.out).mono ?_
      rintro e w2 ⟨c, bw, rfl, k2⟩
      have K2 := Lib.hid k2
      clear k2 S1
      go_wp2_with fail
      refine (Set_k K2.out ba.1).mono ?_
      rintro e w3 ⟨rfl, k3⟩
      rw [KA.out]
      have K3 := Lib.hid k3
      clear k3 K2
      go_wp2_with fail
      refine (Set_k K3.out bb.1).mono ?_
      rintro e w4 ⟨rfl, k4⟩
      rw [KB.out]
      have B4 := Lib.hid k4.below
      clear k4 K3
      go_wp2_with fail
      go_ret
      exact ⟨rfl, B4.out⟩

set_option maxRecDepth 100000 in
theorem lifted (os : Os) (started : os.Started) (H : Type) (enc : TypeId × Value → H) :
    ReturnsInHanded {} Try.checked os 7 .any (Rows.wheelFarSpec.pre6 enc Try.prog Try.f7 Rows.wheelFarRow.domain false) (Rows.wheelFarSpec.post enc Try.prog Try.f7 false true false false) := by
  refine law_lifted (C := Try.checked) (tb := 4) own started (by kernel_rfl) Try.func7
    (ChangeSpec.witness6 (enc := enc) (C := Try.checked) false ⟨#[], #[.int .u64 0, .int .u64 0], []⟩ 8 (by kernel_rfl) (by kernel_rfl) (by kernel_rfl) (by kernel_rfl)) laid (by kernel_rfl) (by kernel_rfl) Try.underlying4 rfl ?_
  intro W base args ds ps hval0 hA0 hlt
  have hval : ∀ (j : Nat) t v, Try.f7.params[j]? = some t → args[j]? = some v → Value.okWide Try.prog W .any base t v := hval0
  have hA : DataW.TrodAll enc Try.prog W 0 (fun _ => true) true Try.f7.params.toList args.toList ds ps := hA0
  clear hA0 hval0
  rw [Try.params7] at hA hval
  obtain ⟨v0, vs0, d0, ds0, p0, q0, hargs, rfl, rfl, h0, r0⟩ := trodAll_cons hA
  obtain ⟨v1, vs1, d1, ds1, p1, q1, rfl, rfl, rfl, h1, r1⟩ := trodAll_cons r0
  obtain ⟨rfl, rfl, rfl⟩ := trodAll_nil r1
  obtain rfl : args = #[v0, v1] := by cases args; simp_all
  obtain ⟨a0, rfl, rfl, rfl, w0⟩ := open_int Try.underlying28 (hval 0 28 v0 rfl rfl) h0
  obtain ⟨a1, rfl, rfl, rfl, w1⟩ := open_int Try.underlying28 (hval 1 28 v1 rfl rfl) h1
  refine ⟨⟨rfl, rfl, rfl⟩, ?_⟩
  have ba := bounds_u64 w0
  have bb := bounds_u64 w1
  exact walk a0 a1 W ba bb

theorem over : Rows.wheelFarRow.holds Try.pinned (OpenSpec.ofChange Rows.wheelFarSpec) :=
  OpenClaim.holds_of_wide 7 Try.f7 rfl rfl rfl rfl rfl rfl rfl ⟨rfl, rfl, rfl, rfl, rfl⟩ rfl rfl rfl rfl rfl (by kernel_rfl) Try.func7 (by kernel_rfl)
    (of_decide_eq_true (by kernel_rfl)) (by unfold Func.isWrapper; first | (rw [if_pos (by decide +kernel)]; kernel_rfl) | (rw [if_neg (by decide +kernel)]; exact ⟨rfl, rfl⟩))
    (fun os started H enc _ => lifted os started H enc)
theorem proved : Rows.WheelFarSaid := over
#print axioms proved
end Go.Proofs.Ytklajkjmecfkpaa.wheelFar
