/- Layer 18: the document's 'ahead of'; one sorted list. -/
import Derived.Test.YtmikjbhhnndncaaOrdV
namespace Go.Proofs.Ytmikjbhhnndncaa
open Go.RowKit
set_option linter.unusedVariables false
set_option maxRecDepth 100000
set_option maxHeartbeats 2000000
instance (x y : Wt) : Decidable (lt3 x y) := by unfold lt3; infer_instance
theorem lt3_total {x y : Wt} (h1 : ¬ lt3 x y) (h2 : ¬ lt3 y x) : x = y := by
  obtain ⟨a, b, c⟩ := x
  obtain ⟨d, e, f⟩ := y
  unfold lt3 at h1 h2
  simp only at h1 h2
  rw [show a = d by omega, show b = e by omega, show c = f by omega]
/-- There is one list in order. -/
theorem one_sorted : ∀ {l m : List Wt}, l.Perm m → l.Pairwise (fun x y => ¬ lt3 y x) → m.Pairwise (fun x y => ¬ lt3 y x) → l = m
  | [], m, hp, _, _ => (List.nil_perm.1 hp).symm
  | x :: t, m, hp, h1, h2 => by
    cases m with
    | nil => exact absurd hp.length_eq (by simp)
    | cons y u =>
      have e : x = y := by
        have hx : x ∈ y :: u := hp.mem_iff.1 List.mem_cons_self
        have hy : y ∈ x :: t := hp.mem_iff.2 List.mem_cons_self
        rcases List.mem_cons.1 hx with h | h
        · exact h
        · rcases List.mem_cons.1 hy with h' | h'
          · exact h'.symm
          · exact lt3_total ((List.pairwise_cons.1 h2).1 x h) ((List.pairwise_cons.1 h1).1 y h')
      subst e
      rw [one_sorted (List.Perm.cons_inv hp) (List.pairwise_cons.1 h1).2 (List.pairwise_cons.1 h2).2]
theorem pair_of {l : List Wt} (h : ∀ (a b : Nat) x y, a < b → l[a]? = some x → l[b]? = some y → ¬ lt3 y x) : l.Pairwise (fun x y => ¬ lt3 y x) :=
  List.pairwise_iff_getElem.2 fun i j hi hj hij => h i j _ _ hij (List.getElem?_eq_getElem hi) (List.getElem?_eq_getElem hj)
/-- Where one goes among those in order. -/
def insK (out : List Wt) (x : Wt) : Nat := (out.takeWhile (fun y => decide (lt3 y x))).length
theorem ins_sorted {out : List Wt} {x : Wt} {k : Nat} (h : out.Pairwise (fun x y => ¬ lt3 y x)) (hk : k ≤ out.length) (hl : ∀ (i : Nat) y, i < k → out[i]? = some y → lt3 y x) (hg : ∀ y, out[k]? = some y → ¬ lt3 y x) :
    (out.take k ++ [x] ++ out.drop k).Pairwise (fun x y => ¬ lt3 y x) ∧ (out.take k ++ [x] ++ out.drop k).Perm (x :: out) := by
  have hd : ∀ y ∈ out.drop k, ¬ lt3 y x := fun y hy => by
    obtain ⟨i, hi⟩ := List.getElem?_of_mem hy
    rw [List.getElem?_drop] at hi
    rcases Nat.eq_zero_or_pos i with rfl | h0
    · exact hg y hi
    · intro hyx
      have hi2 := (List.getElem?_eq_some_iff.1 hi).1
      have hz := List.getElem?_eq_getElem (show k < out.length by omega)
      have h3 := List.pairwise_iff_getElem.1 h k (k + i) (by omega) hi2 (by omega)
      have h4 := hg _ hz
      rw [(List.getElem?_eq_some_iff.1 hi).2] at h3
      unfold lt3 at *
      omega
  have ht : ∀ y ∈ out.take k, lt3 y x := fun y hy => by
    obtain ⟨i, hi⟩ := List.getElem?_of_mem hy
    have hlt : i < k := by
      have := (List.getElem?_eq_some_iff.1 hi).1
      simp at this; omega
    rw [List.getElem?_take, if_pos hlt] at hi
    exact hl i y hlt hi
  constructor
  · rw [List.append_assoc, List.pairwise_append]
    refine ⟨h.sublist (List.take_sublist _ _), ?_, fun a ha b hb => ?_⟩
    · rw [List.singleton_append, List.pairwise_cons]
      exact ⟨fun y hy => hd y hy, h.sublist (List.drop_sublist _ _)⟩
    · rcases List.mem_append.1 hb with hb | hb
      · simp at hb; subst hb
        have := ht a ha
        unfold lt3 at *; omega
      · have e := List.pairwise_append.1 (show ((out.take k) ++ (out.drop k)).Pairwise (fun x y => ¬ lt3 y x) by rw [List.take_append_drop]; exact h)
        exact e.2.2 a ha b hb
  · have e1 : (out.take k ++ [x] ++ out.drop k).Perm ([x] ++ out.take k ++ out.drop k) := List.Perm.append_right _ List.perm_append_comm
    rw [List.append_assoc [x], List.take_append_drop] at e1
    exact e1
theorem rless_c (x y : Wt) (w : World) (r : Bool) (hr : r = decide (lt3 x y)) : Calls Try.prog 38 #[x.v, y.v] w fun e w' => e = .returned (.bool r) ∧ Below w.heap.size w w' := by
  obtain ⟨x1, x2, x3⟩ := x
  obtain ⟨y1, y2, y3⟩ := y
  replace hr : r = decide (x2 < y2 ∨ (x2 = y2 ∧ (x3 < y3 ∨ (x3 = y3 ∧ x1 < y1)))) := hr
  have u : St w None ((w.alloc (.cells #[.int .i64 x1, .int .u64 x2, .int .i64 x3] 32)).alloc (.cells #[.int .i64 y1, .int .u64 y2, .int .i64 y3] 32)) [BlkR w.heap.size 32 #[.int .i64 x1, .int .u64 x2, .int .i64 x3], BlkR (w.heap.size + 1) 32 #[.int .i64 y1, .int .u64 y2, .int .i64 y3]] := by
    have t := ((St.begin w).box 32 #[.int .i64 x1, .int .u64 x2, .int .i64 x3]).box 32 #[.int .i64 y1, .int .u64 y2, .int .i64 y3]
    rw [show (w.alloc (.cells #[.int .i64 x1, .int .u64 x2, .int .i64 x3] 32)).heap.size = w.heap.size + 1 by simp] at t
    exact t
  obtain ⟨a0, a1, a2⟩ := (u.blk 0 rfl).three
  obtain ⟨b0, b1, b2⟩ := (u.blk 1 rfl).three
  have U := Lib.hid u.below
  clear u
  unfold Wt.v
  by_cases h1 : x2 = y2
  · subst h1
    have z1 : (x2 != x2) = false := by simp
    by_cases h2 : x3 = y3
    · subst h2
      have z2 : (x3 != x3) = false := by simp
      obtain rfl : r = decide (x1 < y1) := by rw [hr]; exact decide_eq_decide.2 (by omega)
      clear hr
      go_enter Try.func38, Try.ntmps38
      go_wp2_with fail
      go_ret
      exact ⟨rfl, U.out⟩
    · have z2 : (x3 != y3) = true := by simp [h2]
      obtain rfl : r = decide (x3 < y3) := by rw [hr]; exact decide_eq_decide.2 (by omega)
      clear hr h2
      go_enter Try.func38, Try.ntmps38
      go_wp2_with fail
      go_ret
      exact ⟨rfl, U.out⟩
  · have z1 : (x2 != y2) = true := by simp [h1]
    obtain rfl : r = decide (x2 < y2) := by rw [hr]; exact decide_eq_decide.2 (by omega)
    clear hr h1
    go_enter Try.func38, Try.ntmps38
    go_wp2_with fail
    go_ret
    exact ⟨rfl, U.out⟩
end Go.Proofs.Ytmikjbhhnndncaa
