/- Layer 4: the document's own wheel and what goes off when. Plain theorems. -/
import Derived.Test.YtklajkjmecfkpaaWhS
namespace Go.Proofs.Ytklajkjmecfkpaa
open Go.RowKit
set_option linter.unusedVariables false
def ltL (x y : Int × Int) : Prop := x.2 < y.2 ∨ x.2 = y.2 ∧ x.1 < y.1
/-- These timers, as they go off. -/
structure RL (l : List (Int × Int)) (T : Int → Option Int) : Prop where
  mem : ∀ i a, (i, a) ∈ l ↔ T i = some a
  sort : l.Pairwise ltL
section
variable {l l' : List (Int × Int)} {T : Int → Option Int} {now u : Int}
theorem ltL_trans {x y z : Int × Int} (h : ltL x y) (h' : ltL y z) : ltL x z := by unfold ltL at *; omega
theorem RL.ids (h : RL l T) : (l.map Prod.fst).Nodup := by
  unfold List.Nodup
  rw [List.pairwise_map]
  refine h.sort.imp_of_mem fun {x y} hx hy hl e => ?_
  have a := (h.mem x.1 x.2).1 hx
  have b := (h.mem y.1 y.2).1 hy
  rw [e, b] at a
  injection a with a
  unfold ltL at hl; omega
theorem RL.len (h : RL l T) (ok : TOK now T) : l.length ≤ 1000 := by
  have := len_small 1000 (l.map Prod.fst) h.ids fun x hx => by
    obtain ⟨y, hy, rfl⟩ := List.mem_map.1 hx
    have := ok.t y.1 y.2 ((h.mem y.1 y.2).1 hy)
    exact ⟨this.1, this.2.1⟩
  rwa [List.length_map] at this
theorem RL.nil : RL [] (fun _ => none) := ⟨fun i a => ⟨fun h => (by cases h), fun h => by cases h⟩, .nil⟩
theorem RL.nt (h : RL l T) {id : Int} : (∀ x, x ∈ l → x.1 ≠ id) ↔ T id = none := by
  constructor
  · intro hn
    cases hT : T id with
    | none => rfl
    | some a => exact absurd rfl (hn (id, a) ((h.mem id a).2 hT))
  · intro hT x hx e
    have := (h.mem x.1 x.2).1 hx
    rw [e, hT] at this; cases this
theorem RL.at_ (h : RL l T) {id a f : Int} (hA : AtT l id a f) : a = (T id).getD 0 ∧ f = if (T id).isSome = true then 0 else 6 := by
  rcases hA with ⟨rfl, rfl, hn⟩ | ⟨x, hx, rfl, rfl, rfl⟩
  · rw [h.nt.1 hn]; exact ⟨rfl, rfl⟩
  · rw [(h.mem x.1 x.2).1 hx]; exact ⟨rfl, rfl⟩
def canL (l : List (Int × Int)) (id : Int) : List (Int × Int) := l.filter fun y => decide (y.1 ≠ id)
theorem eraseL : ∀ {l : List (Int × Int)} {i : Nat} {x : Int × Int}, (l.map Prod.fst).Nodup → l[i]? = some x → canL l x.1 = l.take i ++ l.drop (i + 1)
  | [], i, x, _, h => by simp at h
  | a :: t, 0, x, hn, h => by
    obtain rfl : a = x := by simpa using h
    rw [List.map_cons, List.nodup_cons] at hn
    unfold canL
    rw [List.filter_cons, if_neg (by simp)]
    show _ = t
    refine List.filter_eq_self.2 fun y hy => ?_
    rw [decide_eq_true]
    exact fun e => hn.1 (e ▸ List.mem_map_of_mem hy)
  | a :: t, i + 1, x, hn, h => by
    have h : t[i]? = some x := by simpa using h
    rw [List.map_cons, List.nodup_cons] at hn
    have hx : a.1 ≠ x.1 := fun e => hn.1 (e ▸ List.mem_map_of_mem (List.mem_of_getElem? h))
    have := eraseL hn.2 h
    unfold canL at this ⊢
    rw [List.filter_cons, if_pos (by simp [hx]), this]
    rfl
theorem RL.can (h : RL l T) {id f : Int} (hC : CanT l id f l') : l' = canL l id ∧ f = if (T id).isSome = true then 0 else 6 := by
  rcases hC with ⟨rfl, rfl, hn⟩ | ⟨i, x, rfl, hx, rfl, rfl⟩
  · refine ⟨?_, by rw [h.nt.1 hn]; rfl⟩
    unfold canL
    exact (List.filter_eq_self.2 fun y hy => by rw [decide_eq_true]; exact hn y hy).symm
  · exact ⟨(eraseL h.ids hx).symm, by rw [(h.mem x.1 x.2).1 (List.mem_of_getElem? hx)]; rfl⟩
theorem RL.can_ex (h : RL l T) (id : Int) : ∃ f, CanT l id f (canL l id) := by
  cases hT : T id with
  | none => 
    have hn := h.nt.2 hT
    exact ⟨6, Or.inl ⟨rfl, List.filter_eq_self.2 fun y hy => by rw [decide_eq_true]; exact hn y hy, hn⟩⟩
  | some a =>
    obtain ⟨i, hi⟩ := List.mem_iff_getElem?.1 ((h.mem id a).2 hT)
    exact ⟨0, Or.inr ⟨i, (id, a), rfl, hi, rfl, eraseL h.ids hi⟩⟩
theorem RL.canR (h : RL l T) (id : Int) : RL (canL l id) (updT T id none) := by
  refine ⟨fun i a => ?_, h.sort.filter _⟩
  unfold canL updT
  rw [List.mem_filter, h.mem]
  by_cases e : i = id
  · rw [if_pos e]; simp [e]
  · rw [if_neg e]; simp [e]
/-- Where a new one stands. -/
theorem place_ex (id a : Int) : ∀ l : List (Int × Int), ∃ i, i ≤ l.length ∧ (∀ (k : Nat) (x : Int × Int), k < i → l[k]? = some x → x.2 < a ∨ x.2 = a ∧ x.1 < id) ∧ ∀ x, l[i]? = some x → ¬ (x.2 < a ∨ x.2 = a ∧ x.1 < id)
  | [] => ⟨0, Nat.le_refl _, fun k x h => absurd h (Nat.not_lt_zero k), fun x h => by simp at h⟩
  | y :: t => by
    by_cases h : y.2 < a ∨ y.2 = a ∧ y.1 < id
    · obtain ⟨i, h1, h2, h3⟩ := place_ex id a t
      refine ⟨i + 1, by simp; omega, fun k x hk hx => ?_, fun x hx => h3 x (by simpa using hx)⟩
      cases k with
      | zero => obtain rfl : y = x := by simpa using hx
                exact h
      | succ k => exact h2 k x (by omega) (by simpa using hx)
    · exact ⟨0, Nat.zero_le _, fun k x hk => absurd hk (Nat.not_lt_zero k), fun x hx => by
        obtain rfl : y = x := by simpa using hx
        exact h⟩
theorem RL.setR (h : RL l T) {id a : Int} (hT : T id = none) {i : Nat} (hin : i ≤ l.length) (hle : ∀ (k : Nat) (x : Int × Int), k < i → l[k]? = some x → x.2 < a ∨ x.2 = a ∧ x.1 < id) (hgt : ∀ x, l[i]? = some x → ¬ (x.2 < a ∨ x.2 = a ∧ x.1 < id)) :
    RL (l.take i ++ [(id, a)] ++ l.drop i) (updT T id (some a)) := by
  have hno := h.nt.2 hT
  refine ⟨fun j b => ?_, ?_⟩
  · unfold updT
    have hm : (j, b) ∈ l.take i ++ [(id, a)] ++ l.drop i ↔ (j, b) ∈ l ∨ (j, b) = (id, a) := by
      rw [List.mem_append, List.mem_append, List.mem_singleton]
      conv => rhs; rw [← List.take_append_drop i l, List.mem_append]
      constructor
      · rintro ((h | h) | h)
        · exact Or.inl (Or.inl h)
        · exact Or.inr h
        · exact Or.inl (Or.inr h)
      · rintro ((h | h) | h)
        · exact Or.inl (Or.inl h)
        · exact Or.inr h
        · exact Or.inl (Or.inr h)
    rw [hm]
    by_cases e : j = id
    · rw [if_pos e]
      constructor
      · rintro (h1 | h1)
        · exact absurd e (hno _ h1)
        · injection h1 with _ h2; rw [h2]
      · intro h1; injection h1 with h1; exact Or.inr (by rw [e, h1])
    · rw [if_neg e, h.mem]
      constructor
      · rintro (h1 | h1)
        · exact h1
        · injection h1 with h2; exact absurd h2 e
      · exact Or.inl
  · have hs := h.sort
    rw [← List.take_append_drop i l, List.pairwise_append] at hs
    obtain ⟨s1, s2, s3⟩ := hs
    have b1 : ∀ x, x ∈ l.take i → ltL x (id, a) := fun x hx => by
      obtain ⟨k, hk⟩ := List.mem_iff_getElem?.1 hx
      have hki : k < i := by
        have := (List.getElem?_eq_some_iff.1 hk).1
        rw [List.length_take] at this; omega
      rw [List.getElem?_take_of_lt hki] at hk
      exact hle k x hki hk
    have b2 : ∀ y, y ∈ l.drop i → ltL (id, a) y := fun y hy => by
      have hil : i < l.length := by
        apply Nat.lt_of_not_le
        intro hh
        rw [List.drop_eq_nil_of_le hh] at hy; cases hy
      have hx : l[i]? = some l[i] := List.getElem?_eq_getElem hil
      have h1 := hgt _ hx
      have h2 := hno _ (List.mem_of_getElem? hx)
      have h3 : ltL (id, a) l[i] := by unfold ltL; dsimp only; omega
      rw [List.drop_eq_getElem_cons hil] at hy s2
      rcases List.mem_cons.1 hy with rfl | hy
      · exact h3
      · exact ltL_trans h3 ((List.pairwise_cons.1 s2).1 y hy)
    rw [List.append_assoc, List.pairwise_append]
    refine ⟨s1, ?_, fun x hx y hy => ?_⟩
    · exact List.pairwise_cons.2 ⟨b2, s2⟩
    · rcases List.mem_cons.1 hy with rfl | hy
      · exact b1 x hx
      · exact s3 x hx y hy
theorem goT_ex (u : Int) : ∀ l : List (Int × Int), ∃ m, GoT l u m
  | [] => ⟨0, Nat.le_refl _, fun x h => by simp at h, fun x h => by simp at h⟩
  | y :: t => by
    by_cases h : y.2 ≤ u
    · obtain ⟨m, h1, h2, h3⟩ := goT_ex u t
      refine ⟨m + 1, by simp; omega, fun x hx => ?_, fun x hx => h3 x (by simpa using hx)⟩
      rw [List.take_succ_cons] at hx
      rcases List.mem_cons.1 hx with rfl | hx
      · exact h
      · exact h2 x hx
    · exact ⟨0, Nat.zero_le _, fun x h => by simp at h, fun x hx => by
        obtain rfl : y = x := by simpa using hx
        omega⟩
theorem RL.later (h : RL l T) {m : Nat} (hg : GoT l u m) : ∀ y, y ∈ l.drop m → u < y.2 := fun y hy => by
  have hil : m < l.length := by
    apply Nat.lt_of_not_le
    intro hh
    rw [List.drop_eq_nil_of_le hh] at hy; cases hy
  have h1 := hg.2.2 _ (List.getElem?_eq_getElem hil)
  have s2 : (l.drop m).Pairwise ltL := by
    have hs := h.sort
    rw [← List.take_append_drop m l, List.pairwise_append] at hs
    exact hs.2.1
  rw [List.drop_eq_getElem_cons hil] at hy s2
  rcases List.mem_cons.1 hy with rfl | hy
  · exact h1
  · have := (List.pairwise_cons.1 s2).1 y hy
    unfold ltL at this; omega
theorem RL.goR (h : RL l T) {m : Nat} (hg : GoT l u m) : RL (l.drop m) (aft T u) ∧ OffP T u ((l.take m).map Prod.fst) := by
  have hl := h.later hg
  have hs := h.sort
  rw [← List.take_append_drop m l, List.pairwise_append] at hs
  obtain ⟨s1, s2, s3⟩ := hs
  refine ⟨⟨fun i a => ?_, s2⟩, ?_, fun i => ?_⟩
  · rw [aft_iff, ← h.mem]
    constructor
    · intro hm; exact ⟨List.mem_of_mem_drop hm, hl _ hm⟩
    · rintro ⟨hm, hu⟩
      rw [← List.take_append_drop m l, List.mem_append] at hm
      rcases hm with hm | hm
      · have := hg.2.1 _ hm; dsimp only at this; omega
      · exact hm
  · rw [List.pairwise_map]
    refine s1.imp_of_mem fun {x y} hx hy hxy => ?_
    unfold ltT
    rw [(h.mem x.1 x.2).1 (List.mem_of_mem_take hx), (h.mem y.1 y.2).1 (List.mem_of_mem_take hy)]
    exact hxy
  · rw [List.mem_map]
    constructor
    · rintro ⟨x, hx, rfl⟩
      exact ⟨x.2, (h.mem x.1 x.2).1 (List.mem_of_mem_take hx), hg.2.1 x hx⟩
    · rintro ⟨a, hT, hu⟩
      have hm := (h.mem i a).2 hT
      rw [← List.take_append_drop m l, List.mem_append] at hm
      rcases hm with hm | hm
      · exact ⟨_, hm, rfl⟩
      · have := hl _ hm; dsimp only at this; omega
theorem RL.cnt (h : RL l T) (ok : TOK now T) : l.length = cnt T := by
  have hp : (l.map Prod.fst).Perm (fl (fun i => (T (i : Int)).isSome) 1000) := (List.perm_ext_iff_of_nodup h.ids (List.Pairwise.imp (S := fun a b => a ≠ b) (fun {a b} (h : a < b) => by omega) (fl_sort _ _))).2 fun i => by
    rw [fl_mem, List.mem_map]
    constructor
    · rintro ⟨x, hx, rfl⟩
      have hT := (h.mem x.1 x.2).1 hx
      obtain ⟨a, b, -⟩ := ok.t _ _ hT
      exact ⟨x.1.toNat, by omega, by omega, by rw [Int.toNat_of_nonneg a, hT]; rfl⟩
    · rintro ⟨k, rfl, hk, hP⟩
      obtain ⟨a, ha⟩ := Option.isSome_iff_exists.1 hP
      exact ⟨((k : Int), a), (h.mem _ a).2 ha, rfl⟩
  have := hp.length_eq
  rwa [List.length_map, fl_len] at this
end
end Go.Proofs.Ytklajkjmecfkpaa
