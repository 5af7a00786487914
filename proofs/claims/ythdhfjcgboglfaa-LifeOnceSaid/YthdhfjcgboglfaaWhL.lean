/- Layer 4: timers by their numbers; those of one tick as a list. Plain theorems. -/
import Derived.Test.YthdhfjcgboglfaaWhK
namespace Go.Proofs.Ythdhfjcgboglfaa
open Go.RowKit
set_option linter.unusedVariables false
/-- Those of the first m numbers that are asked for. -/
def fl (P : Nat → Bool) (m : Nat) : List Int := ((List.range m).filter P).map fun (i : Nat) => (i : Int)
theorem fl_len (P : Nat → Bool) (m : Nat) : (fl P m).length = cf P m := by unfold fl cf; rw [List.length_map]
theorem fl_mem (P : Nat → Bool) (m : Nat) (i : Int) : i ∈ fl P m ↔ ∃ k : Nat, i = k ∧ k < m ∧ P k = true := by
  unfold fl
  rw [List.mem_map]
  constructor
  · rintro ⟨k, hk, rfl⟩
    rw [List.mem_filter, List.mem_range] at hk
    exact ⟨k, rfl, hk⟩
  · rintro ⟨k, rfl, hk⟩
    exact ⟨k, by rw [List.mem_filter, List.mem_range]; exact hk, rfl⟩
theorem fl_sort (P : Nat → Bool) (m : Nat) : (fl P m).Pairwise (· < ·) := by
  unfold fl
  rw [List.pairwise_map]
  refine List.Pairwise.imp ?_ (List.Pairwise.filter P List.pairwise_lt_range)
  intro a b h; omega
theorem fl_at (P : Nat → Bool) {m k : Nat} (hk : k < m) (hP : P k = true) : (fl P m)[cf P k]? = some (k : Int) := by
  obtain ⟨b, rfl⟩ : ∃ b, m = k + (b + 1) := ⟨m - k - 1, by omega⟩
  unfold fl cf
  rw [List.getElem?_map, List.range_add, List.filter_append, List.getElem?_append_right (Nat.le_refl _), Nat.sub_self, List.range_succ_eq_map, List.map_cons, List.filter_cons]
  simp [hP]
theorem cf_lt (P : Nat → Bool) {m k : Nat} (hk : k < m) (hP : P k = true) : cf P k < cf P m := by
  have h := fl_at P hk hP
  have := (List.getElem?_eq_some_iff.1 h).1
  rwa [fl_len] at this
/-- The first k timers, by when they go off. -/
def tmN (g : Nat → Int) (k : Nat) : Int → Option Int := fun i => if 0 ≤ i ∧ i < k then some (g i.toNat) else none
theorem tmN_zero (g : Nat → Int) : tmN g 0 = fun _ => none := by
  funext i; unfold tmN; rw [if_neg (by omega)]
theorem tmN_some {g : Nat → Int} {k : Nat} {i a : Int} (h : tmN g k i = some a) : ∃ j : Nat, i = j ∧ j < k ∧ a = g j := by
  unfold tmN at h
  split at h
  · injection h with h; exact ⟨i.toNat, by omega, by omega, h.symm⟩
  · cases h
theorem tmN_at (g : Nat → Int) {k j : Nat} (h : j < k) : tmN g k (j : Int) = some (g j) := by
  unfold tmN; rw [if_pos (by omega)]; rfl
theorem tmN_put (g : Nat → Int) (k : Nat) : updT (tmN g k) (k : Int) (some (g k)) = tmN g (k + 1) := by
  funext i
  unfold updT tmN
  by_cases e : i = (k : Int)
  · subst e; rw [if_pos rfl, if_pos (by omega)]; rfl
  · rw [if_neg e]
    by_cases h : 0 ≤ i ∧ i < (k : Int)
    · rw [if_pos h, if_pos (by omega)]
    · rw [if_neg h, if_neg (by omega)]
theorem set_new {now id a : Int} (h0 : 0 ≤ id) (h1 : id < 1000) (h2 : now < a) (h3 : a < 4611686018427387904) (T : Int → Option Int) : setA now id a = 0 ∧ setT now T id a = updT T id (some a) := by
  have e : setA now id a = 0 := by unfold setA; rw [if_neg (by omega), if_pos h3]
  exact ⟨e, by unfold setT; rw [if_pos e]⟩
theorem tmN_set (g : Nat → Int) {k : Nat} (hk : k < 1000) {x : Int} (hx : x = g k) (h0 : 0 < x) (h1 : x < 4611686018427387904) : setA 0 (k : Int) x = 0 ∧ setT 0 (tmN g k) (k : Int) x = tmN g (k + 1) := by
  obtain ⟨a, b⟩ := set_new (now := 0) (id := (k : Int)) (by omega) (by omega) h0 h1 (tmN g k)
  exact ⟨a, by rw [b, hx, tmN_put]⟩
/-- What goes off in one tick. -/
theorem offN (g : Nat → Int) (n : Nat) (t : Int) : OffP (aft (tmN g n) (t - 1)) t (fl (fun i => decide (g i = t)) n) := by
  refine OffP.one (fun i a h => by have := (aft_some h).2; omega) (fl_sort _ _) fun i => ?_
  rw [fl_mem]
  constructor
  · rintro ⟨k, rfl, hk, hP⟩
    have hg : g k = t := of_decide_eq_true hP
    exact aft_at (by rw [tmN_at g hk, hg]) (by omega)
  · intro h
    obtain ⟨j, rfl, hj, ha⟩ := tmN_some (aft_some h).1
    exact ⟨j, rfl, hj, decide_eq_true ha.symm⟩
theorem go_ok {now u : Int} (h : now ≤ u) (hu : u < 4611686018427387904) (T : Int → Option Int) : goA now u = 0 ∧ goN now u = u ∧ goT now T u = aft T u := by
  have e : goA now u = 0 := by unfold goA; rw [if_pos hu, if_neg (by omega)]
  exact ⟨e, by unfold goN; rw [if_pos e], by unfold goT; rw [if_pos e]⟩
theorem goP_ok {now u : Int} (h : now ≤ u) (hu : u < 4611686018427387904) {T : Int → Option Int} {o : List Int} (ho : OffP T u o) : GoP now T u o := by
  unfold GoP; rw [if_pos (go_ok h hu T).1]; exact ho
theorem GoP.off {now u : Int} (h : now ≤ u) (hu : u < 4611686018427387904) {T : Int → Option Int} {o : List Int} (ho : GoP now T u o) : OffP T u o := by
  unfold GoP at ho; rw [if_pos (go_ok h hu T).1] at ho; exact ho
theorem aft_all {T : Int → Option Int} {u : Int} (h : ∀ i a, T i = some a → a ≤ u) : aft T u = fun _ => none := by
  funext i
  cases hT : T i with
  | none => exact aft_none hT
  | some a => exact aft_off hT (h i a hT)
end Go.Proofs.Ythdhfjcgboglfaa
