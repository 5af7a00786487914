/- Layer 19: the document's own book and who is open. Plain theorems; the first ones as in XWhT. Layer 19: the document's own book: what it denies, Answer, Cancel, Go; the same outcomes. Layer 19: the document's own book as one thing, by who is open. Layer 19: the document's own book, by who is open: each call. -/
import Derived.Test.YthdhfjcgboglfaaLifeZb
import Derived.Test.YthdhfjcgboglfaaLifeW
import Derived.Deep.LoopGhost
import Derived.Deep.DeepCutAuto
import Derived.Deep.CutBlock
import Derived.Test.YthdhfjcgboglfaaLifeZc
namespace Go.Proofs.Ythdhfjcgboglfaa
open Go.RowKit
section
set_option linter.unusedVariables false
set_option maxRecDepth 100000
set_option maxHeartbeats 1000000
def ltL (x y : Int × Int) : Prop := x.2 < y.2 ∨ x.2 = y.2 ∧ x.1 < y.1
/-- These timers, as they go off. -/
structure RL (l : List (Int × Int)) (T : Int → Option Int) : Prop where
  mem : ∀ i a, (i, a) ∈ l ↔ T i = some a
  sort : l.Pairwise ltL
section
variable {l l' : List (Int × Int)} {T : Int → Option Int} {now u : Int}
theorem ltL_trans {x y z : Int × Int} (h : ltL x y) (h' : ltL y z) : ltL x z := by unfold ltL at *; omega
theorem RL.ids (h : RL l T) : (l.map Prod.fst).Nodup := by
  unfold List.Nodup
  rw [List.pairwise_map]
  refine h.sort.imp_of_mem fun {x y} hx hy hl e => ?_
  have a := (h.mem x.1 x.2).1 hx
  have b := (h.mem y.1 y.2).1 hy
  rw [e, b] at a
  injection a with a
  unfold ltL at hl; omega
theorem RL.nil : RL [] (fun _ => none) := ⟨fun i a => ⟨fun h => (by cases h), fun h => by cases h⟩, .nil⟩
theorem RL.nt (h : RL l T) {id : Int} : (∀ x, x ∈ l → x.1 ≠ id) ↔ T id = none := by
  constructor
  · intro hn
    cases hT : T id with
    | none => rfl
    | some a => exact absurd rfl (hn (id, a) ((h.mem id a).2 hT))
  · intro hT x hx e
    have := (h.mem x.1 x.2).1 hx
    rw [e, hT] at this; cases this
def canL (l : List (Int × Int)) (id : Int) : List (Int × Int) := l.filter fun y => decide (y.1 ≠ id)
theorem eraseL : ∀ {l : List (Int × Int)} {i : Nat} {x : Int × Int}, (l.map Prod.fst).Nodup → l[i]? = some x → canL l x.1 = l.take i ++ l.drop (i + 1)
  | [], i, x, _, h => by simp at h
  | a :: t, 0, x, hn, h => by
    obtain rfl : a = x := by simpa using h
    rw [List.map_cons, List.nodup_cons] at hn
    unfold canL
    rw [List.filter_cons, if_neg (by simp)]
    show _ = t
    refine List.filter_eq_self.2 fun y hy => ?_
    rw [decide_eq_true]
    exact fun e => hn.1 (e ▸ List.mem_map_of_mem hy)
  | a :: t, i + 1, x, hn, h => by
    have h : t[i]? = some x := by simpa using h
    rw [List.map_cons, List.nodup_cons] at hn
    have hx : a.1 ≠ x.1 := fun e => hn.1 (e ▸ List.mem_map_of_mem (List.mem_of_getElem? h))
    have := eraseL hn.2 h
    unfold canL at this ⊢
    rw [List.filter_cons, if_pos (by simp [hx]), this]
    rfl
theorem RL.can (h : RL l T) {id f : Int} (hC : CanT l id f l') : l' = canL l id ∧ f = if (T id).isSome = true then 0 else 6 := by
  rcases hC with ⟨rfl, rfl, hn⟩ | ⟨i, x, rfl, hx, rfl, rfl⟩
  · refine ⟨?_, by rw [h.nt.1 hn]; rfl⟩
    unfold canL
    exact (List.filter_eq_self.2 fun y hy => by rw [decide_eq_true]; exact hn y hy).symm
  · exact ⟨(eraseL h.ids hx).symm, by rw [(h.mem x.1 x.2).1 (List.mem_of_getElem? hx)]; rfl⟩
theorem RL.can_ex (h : RL l T) (id : Int) : ∃ f, CanT l id f (canL l id) := by
  cases hT : T id with
  | none => 
    have hn := h.nt.2 hT
    exact ⟨6, Or.inl ⟨rfl, List.filter_eq_self.2 fun y hy => by rw [decide_eq_true]; exact hn y hy, hn⟩⟩
  | some a =>
    obtain ⟨i, hi⟩ := List.mem_iff_getElem?.1 ((h.mem id a).2 hT)
    exact ⟨0, Or.inr ⟨i, (id, a), rfl, hi, rfl, eraseL h.ids hi⟩⟩
theorem RL.canR (h : RL l T) (id : Int) : RL (canL l id) (updT T id none) := by
  refine ⟨fun i a => ?_, h.sort.filter _⟩
  unfold canL updT
  rw [List.mem_filter, h.mem]
  by_cases e : i = id
  · rw [if_pos e]; simp [e]
  · rw [if_neg e]; simp [e]
/-- Where a new one stands. -/
theorem place_ex (id a : Int) : ∀ l : List (Int × Int), ∃ i, i ≤ l.length ∧ (∀ (k : Nat) (x : Int × Int), k < i → l[k]? = some x → x.2 < a ∨ x.2 = a ∧ x.1 < id) ∧ ∀ x, l[i]? = some x → ¬ (x.2 < a ∨ x.2 = a ∧ x.1 < id)
  | [] => ⟨0, Nat.le_refl _, fun k x h => absurd h (Nat.not_lt_zero k), fun x h => by simp at h⟩
  | y :: t => by
    by_cases h : y.2 < a ∨ y.2 = a ∧ y.1 < id
    · obtain ⟨i, h1, h2, h3⟩ := place_ex id a t
      refine ⟨i + 1, by simp; omega, fun k x hk hx => ?_, fun x hx => h3 x (by simpa using hx)⟩
      cases k with
      | zero => obtain rfl : y = x := by simpa using hx
                exact h
      | succ k => exact h2 k x (by omega) (by simpa using hx)
    · exact ⟨0, Nat.zero_le _, fun k x hk => absurd hk (Nat.not_lt_zero k), fun x hx => by
        obtain rfl : y = x := by simpa using hx
        exact h⟩
theorem RL.setR (h : RL l T) {id a : Int} (hT : T id = none) {i : Nat} (hin : i ≤ l.length) (hle : ∀ (k : Nat) (x : Int × Int), k < i → l[k]? = some x → x.2 < a ∨ x.2 = a ∧ x.1 < id) (hgt : ∀ x, l[i]? = some x → ¬ (x.2 < a ∨ x.2 = a ∧ x.1 < id)) :
    RL (l.take i ++ [(id, a)] ++ l.drop i) (updT T id (some a)) := by
  have hno := h.nt.2 hT
  refine ⟨fun j b => ?_, ?_⟩
  · unfold updT
    have hm : (j, b) ∈ l.take i ++ [(id, a)] ++ l.drop i ↔ (j, b) ∈ l ∨ (j, b) = (id, a) := by
      rw [List.mem_append, List.mem_append, List.mem_singleton]
      conv => rhs; rw [← List.take_append_drop i l, List.mem_append]
      constructor
      · rintro ((h | h) | h)
        · exact Or.inl (Or.inl h)
        · exact Or.inr h
        · exact Or.inl (Or.inr h)
      · rintro ((h | h) | h)
        · exact Or.inl (Or.inl h)
        · exact Or.inr h
        · exact Or.inl (Or.inr h)
    rw [hm]
    by_cases e : j = id
    · rw [if_pos e]
      constructor
      · rintro (h1 | h1)
        · exact absurd e (hno _ h1)
        · injection h1 with _ h2; rw [h2]
      · intro h1; injection h1 with h1; exact Or.inr (by rw [e, h1])
    · rw [if_neg e, h.mem]
      constructor
      · rintro (h1 | h1)
        · exact h1
        · injection h1 with h2; exact absurd h2 e
      · exact Or.inl
  · have hs := h.sort
    rw [← List.take_append_drop i l, List.pairwise_append] at hs
    obtain ⟨s1, s2, s3⟩ := hs
    have b1 : ∀ x, x ∈ l.take i → ltL x (id, a) := fun x hx => by
      obtain ⟨k, hk⟩ := List.mem_iff_getElem?.1 hx
      have hki : k < i := by
        have := (List.getElem?_eq_some_iff.1 hk).1
        rw [List.length_take] at this; omega
      rw [List.getElem?_take_of_lt hki] at hk
      exact hle k x hki hk
    have b2 : ∀ y, y ∈ l.drop i → ltL (id, a) y := fun y hy => by
      have hil : i < l.length := by
        apply Nat.lt_of_not_le
        intro hh
        rw [List.drop_eq_nil_of_le hh] at hy; cases hy
      have hx : l[i]? = some l[i] := List.getElem?_eq_getElem hil
      have h1 := hgt _ hx
      have h2 := hno _ (List.mem_of_getElem? hx)
      have h3 : ltL (id, a) l[i] := by unfold ltL; dsimp only; omega
      rw [List.drop_eq_getElem_cons hil] at hy s2
      rcases List.mem_cons.1 hy with rfl | hy
      · exact h3
      · exact ltL_trans h3 ((List.pairwise_cons.1 s2).1 y hy)
    rw [List.append_assoc, List.pairwise_append]
    refine ⟨s1, ?_, fun x hx y hy => ?_⟩
    · exact List.pairwise_cons.2 ⟨b2, s2⟩
    · rcases List.mem_cons.1 hy with rfl | hy
      · exact b1 x hx
      · exact s3 x hx y hy
end
/-- By when one must have come out. -/
def TO (op : Nat → Option (Int × Int)) (id : Int) : Option Int := (slotO op id).map fun k => ((op k).getD (0, 0)).2
section
variable {s : Bk} {l l' : List (Int × Int)} {id d u c : Int} {k : Nat}
theorem TO_iff (U : UqO s.op) : TO s.op id = some d ↔ ∃ k, s.op k = some (id, d) := by
  unfold TO
  constructor
  · intro h
    cases hs : slotO s.op id with
    | none => rw [hs] at h; cases h
    | some k =>
      obtain ⟨_, d', hd⟩ := slot_some hs
      rw [hs, Option.map_some, hd] at h
      injection h with h
      exact ⟨k, by rw [hd]; congr 2⟩
  · rintro ⟨k, hk⟩
    rw [U.slot hk, Option.map_some, hk]; rfl
theorem TO_none (U : UqO s.op) : TO s.op id = none ↔ slotO s.op id = none := by
  unfold TO
  cases slotO s.op id with
  | none => exact ⟨fun _ => rfl, fun _ => rfl⟩
  | some k => exact ⟨fun h => (by cases h), fun h => (by cases h)⟩
theorem TO_put (U : UqO s.op) (hk : k < 64) (hn : s.op k = none) (hid : slotO s.op id = none) : TO (updO s.op k (some (id, d))) = updT (TO s.op) id (some d) := by
  funext i
  unfold updT
  have U2 : UqO (Bk.mk s.cost s.now (updO s.op k (some (id, d))) s.un).op := U.put hk hid
  refine Option.ext fun a => ?_
  rw [TO_iff (s := Bk.mk s.cost s.now (updO s.op k (some (id, d))) s.un) U2]
  show (∃ j, updO s.op k (some (id, d)) j = some (i, a)) ↔ _
  by_cases e : i = id
  · subst e
    rw [if_pos rfl]
    constructor
    · rintro ⟨j, hj⟩
      by_cases hjk : j = k
      · rw [hjk, updO_self] at hj; injection hj with hj; injection hj with _ hj; rw [hj]
      · rw [updO_ne _ _ hjk] at hj
        rw [U.slot hj] at hid; cases hid
    · intro h; injection h with h; subst h; exact ⟨k, updO_self _ _ _⟩
  · rw [if_neg e, TO_iff U]
    constructor
    · rintro ⟨j, hj⟩
      by_cases hjk : j = k
      · rw [hjk, updO_self] at hj; injection hj with hj; injection hj with hj _; exact absurd hj.symm e
      · rw [updO_ne _ _ hjk] at hj; exact ⟨j, hj⟩
    · rintro ⟨j, hj⟩
      refine ⟨j, ?_⟩
      rw [updO_ne _ _ (fun hjk => by rw [hjk, hn] at hj; cases hj)]; exact hj
theorem TO_del (U : UqO s.op) (h : s.op k = some (id, d)) : TO (updO s.op k none) = updT (TO s.op) id none := by
  funext i
  unfold updT
  have U2 : UqO (Bk.mk s.cost s.now (updO s.op k none) s.un).op := U.del k
  refine Option.ext fun a => ?_
  rw [TO_iff (s := Bk.mk s.cost s.now (updO s.op k none) s.un) U2]
  show (∃ j, updO s.op k none j = some (i, a)) ↔ _
  by_cases e : i = id
  · subst e
    rw [if_pos rfl]
    constructor
    · rintro ⟨j, hj⟩
      by_cases hjk : j = k
      · rw [hjk, updO_self] at hj; cases hj
      · rw [updO_ne _ _ hjk] at hj
        exact absurd (U.uq j k _ _ hj h rfl) hjk
    · intro h; cases h
  · rw [if_neg e, TO_iff U]
    constructor
    · rintro ⟨j, hj⟩
      by_cases hjk : j = k
      · rw [hjk, updO_self] at hj; cases hj
      · rw [updO_ne _ _ hjk] at hj; exact ⟨j, hj⟩
    · rintro ⟨j, hj⟩
      refine ⟨j, ?_⟩
      rw [updO_ne _ _ (fun hjk => by
        rw [hjk, h] at hj
        injection hj with hj
        injection hj with hj _
        exact e hj.symm)]
      exact hj
theorem RL.open_ (h : RL l (TO s.op)) (ok : s.ok) {x : Int × Int} (hx : x ∈ l) : ∃ k, s.op k = some x :=
  (TO_iff ok.U).1 ((h.mem x.1 x.2).1 hx)
theorem RL.there (h : RL l (TO s.op)) (ok : s.ok) {x : Int × Int} {k : Nat} (hk : s.op k = some x) : x ∈ l :=
  (h.mem x.1 x.2).2 ((TO_iff ok.U).2 ⟨k, hk⟩)
theorem RL.cnt (h : RL l (TO s.op)) (ok : s.ok) : l.length = cntO s.op := by
  have hp : l.Perm (((List.range 64).filter fun k => (s.op k).isSome).map fun k => (s.op k).getD (0, 0)) := by
    refine (List.perm_ext_iff_of_nodup ?_ ?_).2 fun x => ?_
    · exact h.sort.imp fun hab e => by subst e; unfold ltL at hab; omega
    · refine List.Pairwise.map _ (R := fun a b => a ∈ ((List.range 64).filter fun k => (s.op k).isSome) ∧ b ∈ ((List.range 64).filter fun k => (s.op k).isSome) ∧ a ≠ b) ?_ ((List.nodup_range.filter _).imp_of_mem fun ha hb hab => ⟨ha, hb, hab⟩)
      rintro a b ⟨ha, hb, hab⟩ e
      rw [List.mem_filter] at ha hb
      obtain ⟨xa, hxa⟩ := Option.isSome_iff_exists.1 ha.2
      obtain ⟨xb, hxb⟩ := Option.isSome_iff_exists.1 hb.2
      rw [hxa, hxb] at e
      have e : xa = xb := e
      exact hab (ok.U.uq a b xa xb hxa hxb (by rw [e]))
    · rw [List.mem_map]
      constructor
      · intro hx
        obtain ⟨k, hk⟩ := h.open_ ok hx
        exact ⟨k, List.mem_filter.2 ⟨by simpa using ok.U.lt k _ hk, by rw [hk]; rfl⟩, by rw [hk]; rfl⟩
      · rintro ⟨k, hk, e⟩
        rw [List.mem_filter] at hk
        obtain ⟨y, hy⟩ := Option.isSome_iff_exists.1 hk.2
        rw [hy] at e
        have e : y = x := e
        subst e
        exact h.there ok hy
  have := hp.length_eq
  rw [List.length_map] at this
  exact this
/-- So many have come by a time. -/
def GoB (l : List (Int × Int)) (c u : Int) (m : Nat) : Prop := m ≤ l.length ∧ (∀ x, x ∈ l.take m → x.2 - c ≤ u) ∧ ∀ x, l[m]? = some x → u < x.2 - c
theorem goB_ex (c u : Int) : ∀ l : List (Int × Int), ∃ m, GoB l c u m
  | [] => ⟨0, Nat.le_refl _, fun x h => by simp at h, fun x h => by simp at h⟩
  | y :: t => by
    by_cases h : y.2 - c ≤ u
    · obtain ⟨m, h1, h2, h3⟩ := goB_ex c u t
      refine ⟨m + 1, by simp; omega, fun x hx => ?_, fun x hx => h3 x (by simpa using hx)⟩
      rw [List.take_succ_cons] at hx
      rcases List.mem_cons.1 hx with rfl | hx
      · exact h
      · exact h2 x hx
    · exact ⟨0, Nat.zero_le _, fun x h => by simp at h, fun x hx => by
        obtain rfl : y = x := by simpa using hx
        omega⟩
theorem RL.laterB {T : Int → Option Int} (h : RL l T) {m : Nat} (hg : GoB l c u m) : ∀ y, y ∈ l.drop m → u < y.2 - c := fun y hy => by
  have hil : m < l.length := by
    apply Nat.lt_of_not_le
    intro hh
    rw [List.drop_eq_nil_of_le hh] at hy; cases hy
  have h1 := hg.2.2 _ (List.getElem?_eq_getElem hil)
  have s2 : (l.drop m).Pairwise ltL := by
    have hs := h.sort
    rw [← List.take_append_drop m l, List.pairwise_append] at hs
    exact hs.2.1
  rw [List.drop_eq_getElem_cons hil] at hy s2
  rcases List.mem_cons.1 hy with rfl | hy
  · exact h1
  · have := (List.pairwise_cons.1 s2).1 y hy
    unfold ltL at this; omega
/-- They come out, as they stand. -/
def outL (l : List (Int × Int)) : List Ft := l.map fun x => ⟨x.1, 2, 1⟩
theorem RL.goB (h : RL l (TO s.op)) (ok : s.ok) (hu : 0 ≤ u) (hg0 : goA s.now u = 0) {m : Nat} (hg : GoB l s.cost u m) : RL (l.drop m) (TO (s.gon u).op) ∧ OutP s u (s.un ++ outL (l.take m)) := by
  have hl := h.laterB hg
  have hs := h.sort
  rw [← List.take_append_drop m l, List.pairwise_append] at hs
  obtain ⟨s1, s2, s3⟩ := hs
  have ok2 := ok.gon (u := u) hu
  have eop : (s.gon u).op = opF s u := by unfold Bk.gon; rw [if_pos hg0]
  refine ⟨⟨fun i a => ?_, s2⟩, ?_⟩
  · rw [TO_iff ok2.U, eop]
    constructor
    · intro hm
      obtain ⟨k, hk⟩ := h.open_ ok (List.mem_of_mem_drop hm)
      exact ⟨k, opF_some.2 ⟨hk, hl _ hm⟩⟩
    · rintro ⟨k, hk⟩
      obtain ⟨h1, h2⟩ := opF_some.1 hk
      have hm := h.there ok h1
      rw [← List.take_append_drop m l, List.mem_append] at hm
      rcases hm with hm | hm
      · have := hg.2.1 _ hm; omega
      · exact hm
  · have pos : ∀ x, x ∈ l → 0 ≤ x.1 := fun x hx => by
      obtain ⟨k, hk⟩ := h.open_ ok hx
      exact (ok.bd k x hk).1
    unfold OutP
    rw [if_pos hg0]
    refine ⟨(l.take m).map fun x => x.1.toNat, LateQ.of_pw ?_ (fun x => ?_) ?_, ?_⟩
    · refine List.Pairwise.map _ (R := fun a b => (a ∈ l ∧ b ∈ l) ∧ ltL a b) ?_ (s1.imp_of_mem fun {a b} ha hb hab => ⟨⟨List.mem_of_mem_take ha, List.mem_of_mem_take hb⟩, hab⟩)
      rintro a b ⟨⟨ha, hb⟩, hab⟩ e
      have p1 := pos a ha
      have p2 := pos b hb
      obtain ⟨k1, h1⟩ := h.open_ ok ha
      obtain ⟨k2, h2⟩ := h.open_ ok hb
      obtain rfl := ok.U.uq k1 k2 a b h1 h2 (by omega)
      rw [h1] at h2
      injection h2 with h2
      subst h2
      unfold ltL at hab; omega
    · rw [List.mem_map]
      constructor
      · rintro ⟨y, hy, rfl⟩
        have hy2 := List.mem_of_mem_take hy
        obtain ⟨k, hk⟩ := h.open_ ok hy2
        have := pos y hy2
        exact ⟨k, y.2, by rw [hk]; congr 1; ext <;> simp; omega, hg.2.1 y hy⟩
      · rintro ⟨k, d, hk, hd⟩
        have hm := h.there ok hk
        rw [← List.take_append_drop m l, List.mem_append] at hm
        rcases hm with hm | hm
        · exact ⟨_, hm, by simp⟩
        · have := hl _ hm; dsimp only at this; omega
    · refine List.Pairwise.map _ (R := fun a b => (a ∈ l ∧ b ∈ l) ∧ ltL a b) ?_ (s1.imp_of_mem fun {a b} ha hb hab => ⟨⟨List.mem_of_mem_take ha, List.mem_of_mem_take hb⟩, hab⟩)
      rintro a b ⟨⟨ha, hb⟩, hab⟩
      have p1 := pos a ha
      have p2 := pos b hb
      obtain ⟨k1, h1⟩ := h.open_ ok ha
      obtain ⟨k2, h2⟩ := h.open_ ok hb
      have q1 := dead_of ok (x := a.1.toNat) (k := k1) (d := a.2) (by rw [h1]; congr 1; ext <;> simp; omega)
      have q2 := dead_of ok (x := b.1.toNat) (k := k2) (d := b.2) (by rw [h2]; congr 1; ext <;> simp; omega)
      unfold ltN
      rw [q1.1, q1.2, q2.1, q2.2]
      unfold ltL at hab; omega
    · unfold outL fLate
      rw [List.map_map]
      congr 1
      refine List.map_congr_left fun x hx => ?_
      have := pos x (List.mem_of_mem_take hx)
      show (⟨x.1, 2, 1⟩ : Ft) = ⟨((x.1.toNat : Nat) : Int), 2, 1⟩
      rw [Int.toNat_of_nonneg this]
end
end
section
set_option linter.unusedVariables false
set_option maxRecDepth 100000
set_option maxHeartbeats 4000000
section
variable {w0 w w' : World} {S0 S : Nat → Prop} {L : List Res} {r : Nat} {cost now id at1 u : Int} {FV : Value} {X : Res} {l : List (Int × Int)}
/-- What Open says no to. -/
theorem rbOpen_no (h : RBX r cost now FV X l w S) (hl : l.length ≤ 64) (hc : 0 ≤ now ∧ now < 4611686018427387904 ∧ 0 ≤ cost ∧ cost ≤ 1000) {q : Int}
    (hq : q = if id < 0 ∨ 65535 < id then 1 else if 4611686018427387904 ≤ at1 then 2 else if (∃ x, x ∈ l ∧ x.1 = id) then 7 else if l.length = 64 then 4 else 11) (hd : at1 ≤ now + cost ∨ id < 0 ∨ 65535 < id ∨ 4611686018427387904 ≤ at1 ∨ (∃ x, x ∈ l ∧ x.1 = id) ∨ l.length = 64) :
    Calls Try.prog 12 #[.pointer (some ⟨r, 0, none⟩), .int .i64 id, .int .u64 at1] w fun e w' => e = .returned (.int .i64 q) ∧ Below w.heap.size w w' := by
  have FI := Lib.hid (rbfind_c h (by omega) id)
  obtain ⟨A, c, hr⟩ := h
  have s0 := St.start hr
  have p0 := (s0.blk 1 rfl).four.1
  have p1 := (s0.blk 1 rfl).four.2.1
  have p2 := (s0.blk 1 rfl).four.2.2.1
  clear s0 hr
  obtain ⟨n, hn⟩ : ∃ n, l.length = n := ⟨_, rfl⟩
  rw [hn] at p2 hl hq hd
  by_cases h0 : id < 0
  · have d0 : decide (id < 0) = true := decide_eq_true h0
    rw [if_pos (Or.inl h0)] at hq
    subst hq
    clear FI hd
    go_enter Try.func12, Try.ntmps12
    go_wp2_with fail
    go_ret
    exact ⟨rfl, Below.refl _ _⟩
  have d0 : decide (id < 0) = false := decide_eq_false h0
  by_cases h1 : 65535 < id
  · have d1 : decide (65535 < id) = true := decide_eq_true h1
    rw [if_pos (Or.inr h1)] at hq
    subst hq
    clear FI hd
    go_enter Try.func12, Try.ntmps12
    go_wp2_with fail
    go_ret
    exact ⟨rfl, Below.refl _ _⟩
  have d1 : decide (65535 < id) = false := decide_eq_false h1
  rw [if_neg (fun h => h.elim h0 h1)] at hq
  by_cases h2 : 4611686018427387904 ≤ at1
  · have d2 : decide (4611686018427387904 ≤ at1) = true := decide_eq_true h2
    rw [if_pos h2] at hq
    subst hq
    clear FI hd
    go_enter Try.func12, Try.ntmps12
    go_wp2_with fail
    go_ret
    exact ⟨rfl, Below.refl _ _⟩
  have d2 : decide (4611686018427387904 ≤ at1) = false := decide_eq_false h2
  rw [if_neg h2] at hq
  by_cases h3 : ∃ x, x ∈ l ∧ x.1 = id
  · rw [if_pos h3] at hq
    subst hq
    have H3 := Lib.hid h3
    clear hd h3
    go_enter Try.func12, Try.ntmps12
    go_wp2_with fail
    refine FI.out.mono ?_
    rintro e w1 ⟨⟨z, rfl, hz⟩, rfl⟩
    rcases hz with ⟨rfl, hno⟩ | ⟨i, x, rfl, hx, hid⟩
    · obtain ⟨x, hx, e⟩ := H3.out
      exact absurd e (hno x hx)
    · have z0 : decide ((0 : Int) ≤ (i : Int)) = true := decide_eq_true (by omega)
      clear hx hid FI
      go_wp2_with fail
      go_ret
      exact ⟨rfl, Below.refl _ _⟩
  rw [if_neg h3] at hq
  have HNO := Lib.hid (fun x (hx : x ∈ l) e => h3 ⟨x, hx, e⟩)
  have HD := Lib.hid hd
  have H3 := Lib.hid h3
  clear h3 hd
  by_cases h4 : n = 64
  · rw [if_pos h4] at hq
    subst hq
    have d4 : decide (64 ≤ (n : Int)) = true := decide_eq_true (by omega)
    have d4' : decide (64 ≤ n) = true := decide_eq_true (by omega)
    clear h4 hn
    go_enter Try.func12, Try.ntmps12
    go_wp2_with fail
    refine FI.out.mono ?_
    rintro e w1 ⟨⟨z, rfl, hz⟩, rfl⟩
    obtain rfl : z = -1 := by
      rcases hz with ⟨rfl, _⟩ | ⟨j, x, rfl, hx, hid⟩
      · rfl
      · exact absurd hid (HNO.out x (List.mem_of_getElem? hx))
    clear hz FI
    go_wp2_with fail
    go_ret
    exact ⟨rfl, Below.refl _ _⟩
  · rw [if_neg h4] at hq
    subst hq
    have h5 : at1 ≤ now + cost := by
      rcases HD.out with h | h | h | h | h | h
      · exact h
      · exact absurd h h0
      · exact absurd h h1
      · exact absurd h h2
      · exact absurd h H3.out
      · exact absurd h h4
    have d4 : decide (64 ≤ (n : Int)) = false := decide_eq_false (by omega)
    have d4' : decide (64 ≤ n) = false := decide_eq_false (by omega)
    have hwn : IntKind.u64.wrap (now + cost) = now + cost := IntWalk.u64_in _ ⟨by omega, by omega⟩
    have d5 : decide (at1 ≤ now + cost) = true := decide_eq_true h5
    clear h4 hn h5 HD H3
    go_enter Try.func12, Try.ntmps12
    go_wp2_with fail
    refine FI.out.mono ?_
    rintro e w1 ⟨⟨z, rfl, hz⟩, rfl⟩
    obtain rfl : z = -1 := by
      rcases hz with ⟨rfl, _⟩ | ⟨j, x, rfl, hx, hid⟩
      · rfl
      · exact absurd hid (HNO.out x (List.mem_of_getElem? hx))
    clear hz FI
    go_wp2_with fail
    go_quiet (fail)
    go_wp2_with fail
    go_ret
    exact ⟨rfl, ((St.begin w1).drewN nq).below⟩
/-- Of two lists of the same outcomes. -/
theorem fate_neq (a b c : Int) (W : World) : (binOp .neq 50 (.agg #[.int .i64 a, .int .i64 b, .int .i64 c]) (.agg #[.int .i64 a, .int .i64 b, .int .i64 c])).run Try.prog W = .ok (.bool false) W := by
  go_simp
theorem same_c {o : List Ft} {n cA cB : Nat} {A B : Option Addr} (hA : Lis w 50 3 (.slice A n cA) n (fvs o)) (hB : Lis w 50 3 (.slice B n cB) n (fvs o)) (hn : o.length = n) (hn9 : n ≤ 100000) :
    Calls Try.prog 19 #[.slice A n cA, .slice B n cB] w fun e w' => e = .returned (.bool true) ∧ Below w.heap.size w w' := by
  have HA := Lib.hid hA
  have HB := Lib.hid hB
  have HN := Lib.hid hn
  have z1 : ((n : Int) != (n : Int)) = false := by simp
  have z1' : (n != n) = false := by simp
  clear hA hB hn
  go_enter Try.func19, Try.ntmps19
  go_wp2_with fail
  go_loopw [5] (fun x wr => ∃ k : Nat, k ≤ n ∧ x = .int .i64 (k : Int) ∧ Below w.heap.size w wr) (fun x _ => n - (intOf x).toNat)
  case atStart => exact ⟨0, by omega, rfl, Below.refl _ _⟩
  case round =>
  clear z1 z1'
  obtain ⟨k, hk, rfl, hb⟩ := hrel
  have HBL := Lib.hid hb
  by_cases hlt : k < n
  · have y1 : decide ((k : Int) < (n : Int)) = true := decide_eq_true (by omega)
    have y1' : decide (k < n) = true := decide_eq_true hlt
    obtain ⟨f, hf⟩ : ∃ f, o[k]? = some f := ⟨_, List.getElem?_eq_getElem (by rw [HN.out]; exact hlt)⟩
    obtain ⟨c0, c1, c2⟩ := fvs_at o k f hf
    obtain ⟨g1, q1, rfl, hc1⟩ := HA.out.reads.2.resolve_left (by omega)
    obtain ⟨g2, q2, rfl, hc2⟩ := HB.out.reads.2.resolve_left (by omega)
    have x0 := hc1 _ _ c0
    have x1 := hc1 _ _ c1
    have x2 := hc1 _ _ c2
    have x3 := hc2 _ _ c0
    have x4 := hc2 _ _ c1
    have x5 := hc2 _ _ c2
    have x0 := (hb.drew.cell (block_lt x0)).trans x0
    have x1 := (hb.drew.cell (block_lt x1)).trans x1
    have x2 := (hb.drew.cell (block_lt x2)).trans x2
    have x3 := (hb.drew.cell (block_lt x3)).trans x3
    have x4 := (hb.drew.cell (block_lt x4)).trans x4
    have x5 := (hb.drew.cell (block_lt x5)).trans x5
    rw [← Nat.add_assoc] at x1 x2 x4 x5
    have NQ := fate_neq f.id f.kind f.why
    have v0 : (0 : Int) ≤ (k : Int) := by omega
    have v1 : (k : Int) < (n : Int) := by omega
    obtain ⟨f1, f2, f3⟩ := f
    dsimp only at x0 x1 x2 x3 x4 x5 NQ
    clear hc1 hc2 c0 c1 c2 hf hb
    go_wp2_with fail
    go_region
    all_goals
      go_wp2_with fail
      go_roundw
      case rel => exact ⟨k + 1, by omega, by go_num, HBL.out.drew⟩
      case measure => simp [intOf]; omega
  · obtain rfl : k = n := by omega
    have y1 : decide ((k : Int) < (k : Int)) = false := decide_eq_false (by omega)
    have y1' : decide (k < k) = false := decide_eq_false hlt
    clear hb
    go_wp2_with fail
    go_ret
    exact ⟨rfl, HBL.out⟩
end
end
section
set_option linter.unusedVariables false
set_option maxRecDepth 100000
set_option maxHeartbeats 4000000
/-- The book, its outcomes wherever they lie. -/
def RBF (r : Nat) (cost now : Int) (F : List Ft) (l : List (Int × Int)) : Res := fun w S => ∃ G d, RBX r cost now (.slice G F.length d) (LisR 50 3 (.slice G F.length d) F.length (fvs F)) l w S
theorem RBF.ok (r : Nat) (cost now : Int) (F : List Ft) (l : List (Int × Int)) : Ok (RBF r cost now F l) :=
  ⟨fun ⟨G, d, h⟩ b hb => (RBX.ok _ _ _ _ _ _).lt h b hb, fun ⟨G, d, h⟩ hk => ⟨G, d, (RBX.ok _ _ _ _ _ _).frame h hk⟩⟩
section
variable {w0 w w' : World} {S0 S : Nat → Prop} {L : List Res} {r : Nat} {cost now id at1 u : Int} {l l' : List (Int × Int)} {F : List Ft} {f : Int}
theorem rbout_o (H : St w0 S0 w L) (i : Nat) (hi : L[i]? = some (RBF r cost now F l)) (hlen : l.length ≤ 1000) (hF : F.length ≤ 100000) (id kind why : Int) (uniq : ∀ f1 l1, CanT l id f1 l1 → f1 = f ∧ l1 = l') :
    Calls Try.prog 30 #[.pointer (some ⟨r, 0, none⟩), .int .i64 id, .int .i64 kind, .int .i64 why] w fun e w' => e = .returned (.int .i64 f) ∧ St w0 S0 w' (L.set i (RBF r cost now (if f = 0 then F ++ [⟨id, kind, why⟩] else F) l')) :=
  St.call (R := RBF r cost now F l) (fun w S h => by
    obtain ⟨G, d, h⟩ := h
    refine (rbout_c h hlen rfl hF id kind why).mono fun e w' hp => ?_
    unfold OutB at hp
    obtain ⟨f1, l1, G', d', he, hc, S', hx, hd⟩ := hp
    obtain ⟨rfl, rfl⟩ := uniq f1 l1 hc
    refine ⟨he, S', ⟨G', d', ?_⟩, hd⟩
    by_cases hf : f1 = 0
    · rw [if_pos hf, if_pos hf] at hx
      rw [if_pos hf, List.length_append]
      exact hx
    · rw [if_neg hf, if_neg hf] at hx
      rw [if_neg hf]
      exact hx) (RBF.ok _ _ _ _ _) H i hi
/-- What Go does. -/
def GoB1 (r : Nat) (cost u : Int) (F : List Ft) (l : List (Int × Int)) (M : Nat) (w : World) (S : Nat → Prop) (e : Ending) (w' : World) : Prop := ∃ G' n' d', e = .returned (.tuple #[.slice G' n' d', .int .i64 0]) ∧ (F ++ outL (l.take M)).length = n' ∧ St w S w' [RBF r cost u [] (l.drop M), LisR 50 3 (.slice G' n' d') n' (fvs (F ++ outL (l.take M)))]
theorem outL_snoc {k : Nat} {x : Int × Int} (hx : l[k]? = some x) : outL (l.take (k + 1)) = outL (l.take k) ++ [⟨x.1, 2, 1⟩] := by
  unfold outL
  rw [List.take_add_one, hx, List.map_append]; rfl
theorem can_head {k : Nat} {x : Int × Int} (nd : (l.map Prod.fst).Nodup) (hx : l[k]? = some x) : ∀ f1 l1, CanT (l.drop k) x.1 f1 l1 → f1 = 0 ∧ l1 = l.drop (k + 1) := by
  have hkl := (List.getElem?_eq_some_iff.1 hx).1
  have hdk : l.drop k = x :: l.drop (k + 1) := by
    rw [List.drop_eq_getElem_cons hkl]
    congr 1
    exact Option.some.inj ((List.getElem?_eq_getElem hkl).symm.trans hx)
  have nd2 : ((l.drop k).map Prod.fst).Nodup := nd.sublist ((List.drop_sublist _ _).map _)
  rintro f1 l1 (⟨_, _, hno⟩ | ⟨i, y, rfl, hy, hid, rfl⟩)
  · exact absurd rfl (hno x (by rw [hdk]; simp))
  · refine ⟨rfl, ?_⟩
    rw [hdk] at hy nd2 ⊢
    cases i with
    | zero => rfl
    | succ i =>
      have hy : (l.drop (k + 1))[i]? = some y := by simpa using hy
      rw [List.map_cons, List.nodup_cons] at nd2
      exact absurd (hid ▸ List.mem_map_of_mem (List.mem_of_getElem? hy)) nd2.1
theorem rbGo_c (h : RBF r cost now F l w S) (nd : (l.map Prod.fst).Nodup) (hlen : l.length ≤ 64) (hF : F.length ≤ 90000) (hb : ∀ x, x ∈ l → cost ≤ x.2 ∧ x.2 < 4611686018427387904) (hc : 0 ≤ cost) (h0 : now ≤ u) (h1 : u < 4611686018427387904) {M : Nat} (hg : GoB l cost u M) :
    Calls Try.prog 18 #[.pointer (some ⟨r, 0, none⟩), .int .u64 u] w fun e w' => GoB1 r cost u F l M w S e w' := by
  obtain ⟨G0, dG0, A0, c0, hr⟩ := h
  have s0 := St.start hr
  have p1 := (s0.blk 1 rfl).four.2.1
  have g1 := (s0.blk 1 rfl).frozen 1
  have s1 : St w S (w.setCell ⟨r, 1, none⟩ (.int .u64 u)) [RBF r cost u F l] := St.fold (A := []) (s0.set_ 1 rfl 1 (.int .u64 u)) (RBF.ok _ _ _ _ _) fun S' h => ⟨G0, dG0, A0, c0, h⟩
  have S1 := Lib.hid s1
  have ND := Lib.hid nd
  have HB := Lib.hid hb
  have HG := Lib.hid hg
  have d1 : decide (4611686018427387904 ≤ u) = false := decide_eq_false (by omega)
  have d2 : decide (u < now) = false := decide_eq_false (by omega)
  clear hr s0 s1 nd hb hg
  go_enter Try.func18, Try.ntmps18
  go_wp2_with fail
  go_loopg [] M (fun gk wr => ∃ k : Nat, gk = M - k ∧ k ≤ M ∧ St w S wr [RBF r cost u (F ++ outL (l.take k)) (l.drop k)])
  case atStart => exact ⟨0, by omega, by omega, by rw [List.take_zero, List.drop_zero, show outL [] = [] from rfl, List.append_nil]; exact S1.out⟩
  case round =>
  clear S1 p1 g1
  obtain ⟨k, rfl, hk, sr⟩ := hrel
  obtain ⟨S', hR, hd⟩ := sr.fin (R := RBF r cost u (F ++ outL (l.take k)) (l.drop k)) (fun S' h => star_one h)
  obtain ⟨G, dG, A, c, hstar⟩ := hR
  have s5 : St w S wr (RBXL r A c cost u (.slice G (F ++ outL (l.take k)).length dG) (LisR 50 3 (.slice G (F ++ outL (l.take k)).length dG) (F ++ outL (l.take k)).length (fvs (F ++ outL (l.take k)))) (l.drop k)) := ⟨S', hstar, hd⟩
  have q0 := (s5.blk 1 rfl).four.1
  have q2 := (s5.blk 1 rfl).four.2.2.1
  have q3 := (s5.blk 1 rfl).four.2.2.2
  have g3 := (s5.blk 1 rfl).frozen 3
  have ls := s5.lis 2 rfl
  have hM := HG.out.1
  have hol : (outL (l.take k)).length = k := by unfold outL; rw [List.length_map, List.length_take]; omega
  obtain ⟨n, hn⟩ : ∃ n, (l.drop k).length = n := ⟨_, rfl⟩
  have hn2 : l.length - k = n := by rw [← hn, List.length_drop]
  rw [hn] at q2
  have S5 := Lib.hid s5
  have SR := Lib.hid sr
  have HOL := Lib.hid hol
  clear hd hstar s5 sr hol
  by_cases hlt : k < M
  · have hkl : k < l.length := by omega
    obtain ⟨x, hx⟩ : ∃ x, l[k]? = some x := ⟨_, List.getElem?_eq_getElem hkl⟩
    have hxu := HG.out.2.1 x (by
      refine List.mem_of_getElem? (i := k) ?_
      rw [List.getElem?_take_of_lt hlt]; exact hx)
    have hdk : l.drop k = x :: l.drop (k + 1) := by
      rw [List.drop_eq_getElem_cons hkl]
      congr 1
      exact Option.some.inj ((List.getElem?_eq_getElem hkl).symm.trans hx)
    have hxb := HB.out x (List.mem_of_getElem? hx)
    have CH := Lib.hid (can_head ND.out hx)
    have OS := Lib.hid (outL_snoc hx)
    have hl0 : (l.drop k).length ≤ 1000 := by omega
    have hf0 : (F ++ outL (l.take k)).length ≤ 100000 := by rw [List.length_append, HOL.out]; omega
    rw [hdk] at ls
    rcases ls.reads.2 with h9 | ⟨b, off, rfl, hcl⟩
    · simp at h9
    have e0 : wr.cell? ⟨b, off, none⟩ = some (.int .i64 x.1) := hcl 0 _ rfl
    have e1 : wr.cell? ⟨b, off + 1, none⟩ = some (.int .u64 x.2) := hcl 1 _ rfl
    obtain ⟨x1, x2⟩ := x
    dsimp only at e0 e1 hxu hxb CH OS
    have y0 : decide ((0 : Int) < (n : Int)) = true := decide_eq_true (by omega)
    have y0' : decide (0 < n) = true := decide_eq_true (by omega)
    have y1 : IntKind.u64.wrap (x2 - cost) = x2 - cost := IntWalk.u64_in _ ⟨by omega, by omega⟩
    have y2 : decide (x2 - cost ≤ u) = true := decide_eq_true hxu
    have y3 : (0 : Int) < (n : Int) := by omega
    have HL0 := Lib.hid hl0
    have HF0 := Lib.hid hf0
    clear ls hcl hx hdk hn hl0 hf0 hkl hxu hxb hn2 S5
    go_wp2_with fail
    go_quiet (fail)
    have K1 := Lib.hid (rbout_o (SR.out.drewN nq) 0 rfl HL0.out HF0.out x1 2 1 CH.out)
    clear q0 q3 y1 y2
    go_wp2_with fail
    refine K1.out.mono ?_
    rintro e w6 ⟨rfl, s6⟩
    have s6 : St w S w6 [RBF r cost u (F ++ outL (l.take k) ++ [⟨x1, 2, 1⟩]) (l.drop (k + 1))] := s6
    rw [List.append_assoc, ← OS.out] at s6
    have S6 := Lib.hid s6
    clear s6 K1
    go_wp2_with fail
    go_roundg (M - (k + 1))
    case measure => omega
    case rel => exact ⟨k + 1, rfl, by omega, S6.out⟩
  · obtain rfl : k = M := by omega
    have FIN := Lib.hid (fun nq => by
      have s6 := (S5.out.drewN nq).set_ 1 rfl 3 (.slice none 0 0)
      have s7 : St w S _ ([LisR 50 3 (.slice G (F ++ outL (l.take k)).length dG) (F ++ outL (l.take k)).length (fvs (F ++ outL (l.take k)))] ++ [BlkR r 33 #[.int .u64 cost, .int .u64 u, .slice A (l.drop k).length c, .slice none 0 0], LisR 45 2 (.slice A (l.drop k).length c) (l.drop k).length (tvs (l.drop k)), LisR 50 3 (.slice none 0 0) 0 []]) := s6.lis_nil 50 3
      have s8 := s7.comm.swap12.swap01
      have s9 := St.comm (A := [LisR 50 3 (.slice none 0 0) 0 [], BlkR r 33 #[.int .u64 cost, .int .u64 u, .slice A (l.drop k).length c, .slice none 0 0], LisR 45 2 (.slice A (l.drop k).length c) (l.drop k).length (tvs (l.drop k))]) (B := [LisR 50 3 (.slice G (F ++ outL (l.take k)).length dG) (F ++ outL (l.take k)).length (fvs (F ++ outL (l.take k)))]) s8
      exact (St.fold (A := [LisR 50 3 (.slice G (F ++ outL (l.take k)).length dG) (F ++ outL (l.take k)).length (fvs (F ++ outL (l.take k)))]) s9 (RBF.ok r cost u [] (l.drop k)) fun S' h => ⟨none, 0, A, c, h⟩).comm)
    generalize hFF : F ++ outL (l.take k) = FF at *
    have HFF := Lib.hid hFF
    clear hFF S5 SR
    by_cases hkl : k < l.length
    · obtain ⟨x, hx⟩ : ∃ x, l[k]? = some x := ⟨_, List.getElem?_eq_getElem hkl⟩
      have hxu := HG.out.2.2 x hx
      have hdk : l.drop k = x :: l.drop (k + 1) := by
        rw [List.drop_eq_getElem_cons hkl]
        congr 1
        exact Option.some.inj ((List.getElem?_eq_getElem hkl).symm.trans hx)
      have hxb := HB.out x (List.mem_of_getElem? hx)
      rw [hdk] at ls
      rcases ls.reads.2 with h9 | ⟨b, off, rfl, hcl⟩
      · simp at h9
      have e1 : wr.cell? ⟨b, off + 1, none⟩ = some (.int .u64 x.2) := hcl 1 _ rfl
      obtain ⟨x1, x2⟩ := x
      dsimp only at e1 hxu hxb
      have y0 : decide ((0 : Int) < (n : Int)) = true := decide_eq_true (by omega)
      have y0' : decide (0 < n) = true := decide_eq_true (by omega)
      have y1 : IntKind.u64.wrap (x2 - cost) = x2 - cost := IntWalk.u64_in _ ⟨by omega, by omega⟩
      have y2 : decide (x2 - cost ≤ u) = false := decide_eq_false (by omega)
      have y3 : (0 : Int) < (n : Int) := by omega
      clear ls hcl hx hdk hn hkl hxu hxb hn2
      go_wp2_with fail
      go_quiet (fail)
      go_wp2_with fail
      go_ret2
      unfold GoB1
      rw [HFF.out]
      exact ⟨G, _, dG, rfl, rfl, FIN.out nq⟩
    · obtain rfl : n = 0 := by omega
      clear ls hn hkl hn2
      go_wp2_with fail
      go_quiet (fail)
      go_wp2_with fail
      go_ret2
      unfold GoB1
      rw [HFF.out]
      exact ⟨G, _, dG, rfl, rfl, FIN.out nq⟩
theorem rbGo_no (h : RBF r cost now F l w S) {q : Int} (hq : q = if 4611686018427387904 ≤ u then 2 else 1) (hu : 4611686018427387904 ≤ u ∨ u < now) :
    Calls Try.prog 18 #[.pointer (some ⟨r, 0, none⟩), .int .u64 u] w fun e w' => e = .returned (.tuple #[.slice none 0 0, .int .i64 q]) ∧ Below w.heap.size w w' := by
  obtain ⟨G0, dG0, A0, c0, hr⟩ := h
  have s0 := St.start hr
  have p1 := (s0.blk 1 rfl).four.2.1
  clear hr s0
  by_cases h1 : 4611686018427387904 ≤ u
  · rw [if_pos h1] at hq
    subst hq
    have d1 : decide (4611686018427387904 ≤ u) = true := decide_eq_true h1
    clear hu h1
    go_enter Try.func18, Try.ntmps18
    go_wp2_with fail
    go_ret2
    exact ⟨rfl, Below.refl _ _⟩
  · rw [if_neg h1] at hq
    subst hq
    have d1 : decide (4611686018427387904 ≤ u) = false := decide_eq_false h1
    have d2 : decide (u < now) = true := decide_eq_true (by omega)
    clear hu h1
    go_enter Try.func18, Try.ntmps18
    go_wp2_with fail
    go_ret2
    exact ⟨rfl, Below.refl _ _⟩
end
end
section
set_option linter.unusedVariables false
set_option maxRecDepth 100000
set_option maxHeartbeats 4000000
def RBK (r : Nat) (s : Bk) : Res := fun w S => ∃ l, RL l (TO s.op) ∧ RBF r s.cost s.now s.un l w S
theorem RBK.ok (r : Nat) (s : Bk) : Ok (RBK r s) :=
  ⟨fun ⟨l, _, h⟩ b hb => (RBF.ok _ _ _ _ _).lt h b hb, fun ⟨l, hl, h⟩ hk => ⟨l, hl, (RBF.ok _ _ _ _ _).frame h hk⟩⟩
section
variable {w0 w w' : World} {S0 S : Nat → Prop} {L : List Res} {r : Nat} {s : Bk} {id at1 u : Int} {l l' : List (Int × Int)}
theorem rbk_new (H : St w0 S0 w L) (c : Int) : St w0 S0 (w.alloc (.cells #[.int .u64 c, .int .u64 0, .slice none 0 0, .slice none 0 0] 33)) (L ++ [RBK w.heap.size (Bk.new c)]) := by
  have h := ((H.lis_nil 50 3).box 33 #[.int .u64 c, .int .u64 0, .slice none 0 0, .slice none 0 0]).lis_nil 45 2
  rw [List.append_assoc, List.append_assoc] at h
  refine h.fold (RBK.ok _ _) fun S h => ⟨[], ?_, none, 0, none, 0, h⟩
  have : TO (Bk.new c).op = fun _ => none := by
    funext i
    have : slotO (Bk.new c).op i = none := by
      cases hs : slotO (Bk.new c).op i with
      | none => rfl
      | some k => obtain ⟨_, d, hd⟩ := slot_some hs; cases (show (none : Option (Int × Int)) = some (i, d) from hd)
    unfold TO; rw [this]; rfl
  rw [this]; exact RL.nil
/-- What a walk reads of it. -/
theorem rbk_look (H : St w0 S0 w L) (i : Nat) (hi : L[i]? = some (RBK r s)) (ok : s.ok) : ∃ l A c, RL l (TO s.op) ∧ l.length = cntO s.op ∧ w.cell? ⟨r, 1, none⟩ = some (.int .u64 s.now) ∧ w.cell? ⟨r, 2, none⟩ = some (.slice A l.length c) ∧ Lis w 45 2 (.slice A l.length c) l.length (tvs l) := by
  obtain ⟨S, l, hl, G, d, A, c, hs⟩ := H.get i hi
  have s0 := St.start hs
  exact ⟨l, A, c, hl, hl.cnt ok, (s0.blk 1 rfl).four.2.1, (s0.blk 1 rfl).four.2.2.1, s0.lis 2 rfl⟩
theorem RL.out (h : RL l (TO s.op)) (ok : s.ok) (f : Ft) : ∃ l', RL l' (TO (s.out f).op) ∧ (s.out f).un = (if outA s f.id = 0 then s.un ++ [f] else s.un) ∧ ∀ f1 l1, CanT l f.id f1 l1 → f1 = outA s f.id ∧ l1 = l' := by
  have hA : (if (TO s.op f.id).isSome = true then (0 : Int) else 6) = outA s f.id := by
    unfold outA TO
    cases slotO s.op f.id <;> rfl
  cases hs : slotO s.op f.id with
  | none =>
    have ho : outA s f.id = 6 := by unfold outA; rw [hs]; rfl
    refine ⟨l, by rw [Bk.out_none hs]; exact h, by rw [Bk.out_none hs, if_neg (by rw [ho]; decide)], fun f1 l1 hc => ?_⟩
    obtain ⟨e1, e2⟩ := h.can hc
    refine ⟨e2.trans hA, ?_⟩
    rcases hc with ⟨_, e, _⟩ | ⟨i, x, e, hx, hid, _⟩
    · exact e
    · rw [e, hA, ho] at e2; cases e2
  | some k =>
    have ho : outA s f.id = 0 := by unfold outA; rw [hs]; rfl
    obtain ⟨_, d, hd⟩ := slot_some hs
    refine ⟨canL l f.id, ?_, by rw [Bk.out_some hs, if_pos ho], fun f1 l1 hc => ?_⟩
    · rw [Bk.out_some hs]
      show RL (canL l f.id) (TO (updO s.op k none))
      rw [TO_del ok.U hd]
      exact h.canR f.id
    · obtain ⟨e1, e2⟩ := h.can hc
      exact ⟨e2.trans hA, e1⟩
theorem rbkOut_c (ok : s.ok) (hun : s.un.length ≤ 100000) (f : Ft) (h : RBK r s w S) : Calls Try.prog 30 #[.pointer (some ⟨r, 0, none⟩), .int .i64 f.id, .int .i64 f.kind, .int .i64 f.why] w fun e w' => e = .returned (.int .i64 (outA s f.id)) ∧ ∃ S', RBK r (s.out f) w' S' ∧ Did S S' w w' := by
  obtain ⟨l, hl, h⟩ := h
  obtain ⟨l', h1, h2, h3⟩ := hl.out ok f
  have hlen : l.length ≤ 1000 := by rw [hl.cnt ok]; have := cntO_le s.op; omega
  refine (rbout_o (w0 := w) (S0 := S) (L := [RBF r s.cost s.now s.un l]) (St.start (Star.one (RBF.ok _ _ _ _ _) h)) 0 rfl hlen hun f.id f.kind f.why h3).mono fun e w' ⟨he, st⟩ => ⟨he, ?_⟩
  have st : St w S w' [RBF r s.cost s.now (if outA s f.id = 0 then s.un ++ [⟨f.id, f.kind, f.why⟩] else s.un) l'] := st
  have e1 : (s.out f).cost = s.cost ∧ (s.out f).now = s.now := by unfold Bk.out; split <;> exact ⟨rfl, rfl⟩
  refine st.fin fun S' hS => ⟨l', h1, ?_⟩
  rw [e1.1, e1.2, h2]
  exact star_one hS
theorem rbkCancel_o (H : St w0 S0 w L) (i : Nat) (hi : L[i]? = some (RBK r s)) (ok : s.ok) (hun : s.un.length ≤ 100000) : Calls Try.prog 16 #[.pointer (some ⟨r, 0, none⟩), .int .i64 id] w fun e w' => e = .returned (.int .i64 (outA s id)) ∧ St w0 S0 w' (L.set i (RBK r (s.out ⟨id, 2, 3⟩))) :=
  St.call (R := RBK r s) (fun w S h => by
    have K := Lib.hid (rbkOut_c ok hun ⟨id, 2, 3⟩ h)
    clear H hi h
    go_enter Try.func16, Try.ntmps16
    go_wp2_with fail
    refine K.out.mono ?_
    rintro e w1 ⟨rfl, h1⟩
    have H1 := Lib.hid h1
    clear h1 K
    go_wp2_with fail
    go_ret
    exact ⟨rfl, H1.out⟩) (RBK.ok _ _) H i hi
theorem rbkAnswer_o (H : St w0 S0 w L) (i : Nat) (hi : L[i]? = some (RBK r s)) (ok : s.ok) (hun : s.un.length ≤ 100000) (st : Int) (bad : Bool) : Calls Try.prog 14 #[.pointer (some ⟨r, 0, none⟩), .int .i64 id, .int .i64 st, .bool bad] w fun e w' => e = .returned (.int .i64 (ansA s id st)) ∧ St w0 S0 w' (L.set i (RBK r (s.ans id st bad))) :=
  St.call (R := RBK r s) (fun w S h => by
    clear H hi
    obtain ⟨q, hq⟩ : ∃ q, ansA s id st = q := ⟨_, rfl⟩
    obtain ⟨s', hs'⟩ : ∃ s', s.ans id st bad = s' := ⟨_, rfl⟩
    rw [hq, hs']
    by_cases hc : st < 0 ∨ 255 < st
    · have e1 : ansA s id st = 1 := if_pos hc
      have e2 : s.ans id st bad = s := if_pos hc
      obtain rfl : q = 1 := hq.symm.trans e1
      obtain rfl : s' = s := hs'.symm.trans e2
      have HH := Lib.hid (show ∃ S', RBK r s' w S' ∧ Did S S' w w from ⟨S, h, Did.refl _ _⟩)
      clear e1 e2 hq hs' h
      by_cases h0 : st < 0
      · have d0 : decide (st < 0) = true := decide_eq_true h0
        clear hc h0
        go_enter Try.func14, Try.ntmps14
        go_wp2_with fail
        go_ret
        exact ⟨rfl, HH.out⟩
      · have d0 : decide (st < 0) = false := decide_eq_false h0
        have d1 : decide (255 < st) = true := decide_eq_true (by omega)
        clear hc h0
        go_enter Try.func14, Try.ntmps14
        go_wp2_with fail
        go_ret
        exact ⟨rfl, HH.out⟩
    · have e1 : ansA s id st = outA s id := if_neg hc
      have e2 : s.ans id st bad = s.out (if bad then ⟨id, 2, 2⟩ else ⟨id, 1, st⟩) := if_neg hc
      have d0 : decide (st < 0) = false := decide_eq_false (by omega)
      have d1 : decide (255 < st) = false := decide_eq_false (by omega)
      cases bad with
      | true =>
        have K := Lib.hid (rbkOut_c ok hun ⟨id, 2, 2⟩ h)
        have e2 : s.ans id st true = s.out ⟨id, 2, 2⟩ := e2
        rw [show (⟨id, 2, 2⟩ : Ft).id = id from rfl, ← e1, hq, ← e2, hs'] at K
        clear h hc e1 e2 hq hs'
        go_enter Try.func14, Try.ntmps14
        go_wp2_with fail
        refine K.out.mono ?_
        rintro e w1 ⟨rfl, h1⟩
        have H1 := Lib.hid h1
        clear h1 K
        go_wp2_with fail
        go_ret
        exact ⟨rfl, H1.out⟩
      | false =>
        have K := Lib.hid (rbkOut_c ok hun ⟨id, 1, st⟩ h)
        have e2 : s.ans id st false = s.out ⟨id, 1, st⟩ := e2
        rw [show (⟨id, 1, st⟩ : Ft).id = id from rfl, ← e1, hq, ← e2, hs'] at K
        clear h hc e1 e2 hq hs'
        go_enter Try.func14, Try.ntmps14
        go_wp2_with fail
        refine K.out.mono ?_
        rintro e w1 ⟨rfl, h1⟩
        have H1 := Lib.hid h1
        clear h1 K
        go_wp2_with fail
        go_ret
        exact ⟨rfl, H1.out⟩) (RBK.ok _ _) H i hi
theorem rbkOpen_o (H : St w0 S0 w L) (i : Nat) (hi : L[i]? = some (RBK r s)) (ok : s.ok) (hN : s.now < 4611686018427387904) (h0 : 0 ≤ at1) : Calls Try.prog 12 #[.pointer (some ⟨r, 0, none⟩), .int .i64 id, .int .u64 at1] w fun e w' => e = .returned (.int .i64 (opnA s id at1)) ∧ St w0 S0 w' (L.set i (RBK r (s.opn id at1))) := by
  have c0 := ok.c0
  have c1 := ok.c1
  have n0 := ok.n0
  by_cases hf : opnA s id at1 = 0
  · obtain ⟨a0, a1, a2, hs, hn, hlt⟩ := opnA_0 hf
    obtain ⟨f1, f2, _⟩ := free_get hn
    rw [hf]
    refine St.call (R := RBK r s) (fun w S h => ?_) (RBK.ok _ _) H i hi
    obtain ⟨l, hl, G, d, h⟩ := h
    have hT := (TO_none ok.U).2 hs
    have hcnt := hl.cnt ok
    obtain ⟨k, hk, hle, hgt⟩ := place_ex id at1 l
    have hR := hl.setR hT hk hle hgt
    refine (rbOpen_yes h (by omega) a0 a1 hlt a2 n0 (by omega) (hl.nt.2 hT) hk rfl hle hgt).mono ?_
    rintro e w' ⟨he, S', hs', hd⟩
    refine ⟨he, S', ?_, hd⟩
    unfold Bk.opn
    rw [if_pos hf]
    refine ⟨_, ?_, G, d, hs'⟩
    show RL _ (TO (updO s.op (freeO s.op) (some (id, at1))))
    rw [TO_put ok.U f1 f2 hs]
    exact hR
  · have e : s.opn id at1 = s := by unfold Bk.opn; rw [if_neg hf]
    rw [e, set_same hi]
    obtain ⟨S, l, hl, G, d, h⟩ := H.get i hi
    have hcnt := hl.cnt ok
    have hle := cntO_le s.op
    have hx : (∃ x, x ∈ l ∧ x.1 = id) ↔ (slotO s.op id).isSome = true := by
      constructor
      · rintro ⟨x, hx, rfl⟩
        obtain ⟨k, hk⟩ := hl.open_ ok hx
        rw [ok.U.slot (id := x.1) (d := x.2) hk]; rfl
      · intro hs
        obtain ⟨k, hk⟩ := Option.isSome_iff_exists.1 hs
        obtain ⟨_, d, hd⟩ := slot_some hk
        exact ⟨_, hl.there ok hd, rfl⟩
    have hq : opnA s id at1 = if id < 0 ∨ 65535 < id then 1 else if 4611686018427387904 ≤ at1 then 2 else if (∃ x, x ∈ l ∧ x.1 = id) then 7 else if l.length = 64 then 4 else 11 := by
      by_cases k1 : id < 0 ∨ 65535 < id
      · rw [if_pos k1]; exact if_pos k1
      rw [if_neg k1]
      have t1 : opnA s id at1 = if 4611686018427387904 ≤ at1 then 2 else if (slotO s.op id).isSome = true then 7 else if cntO s.op = 64 then 4 else if at1 ≤ s.now + s.cost then 11 else 0 := if_neg k1
      rw [t1] at hf ⊢
      by_cases k2 : 4611686018427387904 ≤ at1
      · rw [if_pos k2, if_pos k2]
      rw [if_neg k2] at hf ⊢
      rw [if_neg k2]
      by_cases k3 : (slotO s.op id).isSome = true
      · rw [if_pos k3, if_pos (hx.2 k3)]
      rw [if_neg k3] at hf ⊢
      rw [if_neg (fun h => k3 (hx.1 h)), hcnt]
      by_cases k4 : cntO s.op = 64
      · rw [if_pos k4, if_pos k4]
      rw [if_neg k4] at hf ⊢
      rw [if_neg k4]
      by_cases k5 : at1 ≤ s.now + s.cost
      · rw [if_pos k5]
      · rw [if_neg k5] at hf; exact absurd rfl hf
    have hd : at1 ≤ s.now + s.cost ∨ id < 0 ∨ 65535 < id ∨ 4611686018427387904 ≤ at1 ∨ (∃ x, x ∈ l ∧ x.1 = id) ∨ l.length = 64 := by
      apply Decidable.byContradiction
      intro hno
      simp only [not_or] at hno
      obtain ⟨k5, k1, k1', k2, k3, k4⟩ := hno
      apply hf
      unfold opnA
      rw [if_neg (fun h => h.elim k1 k1'), if_neg k2, if_neg (fun h => k3 (hx.2 h)), if_neg (by rw [← hcnt]; exact k4), if_neg k5]
    exact (rbOpen_no h (by omega) ⟨n0, hN, by omega, c1⟩ hq hd).mono fun e w' ⟨he, hb⟩ => ⟨he, H.stay hb⟩
theorem rbkGo_o (H : St w0 S0 w L) (i : Nat) (hi : L[i]? = some (RBK r s)) (ok : s.ok) (hu : 0 ≤ u) (hun : s.un.length ≤ 90000) : Calls Try.prog 18 #[.pointer (some ⟨r, 0, none⟩), .int .u64 u] w fun e w' => ∃ B n d out, e = .returned (.tuple #[.slice B n d, .int .i64 (goA s.now u)]) ∧ OutP s u out ∧ out.length = n ∧
      St w0 S0 w' (L.set i (RBK r (s.gon u)) ++ [LisR 50 3 (.slice B n d) n (fvs out)]) := by
  by_cases hf : goA s.now u = 0
  · have hb : s.now ≤ u ∧ u < 4611686018427387904 := by
      unfold goA at hf
      split at hf
      · split at hf
        · cases hf
        · omega
      · cases hf
    rw [hf]
    refine (St.call_more (α := Option Addr × Nat × Nat × List Ft) (R := RBK r s) (R' := RBK r (s.gon u)) (N := fun x => [LisR 50 3 (.slice x.1 x.2.1 x.2.2.1) x.2.1 (fvs x.2.2.2)]) (Post := fun x e => e = .returned (.tuple #[.slice x.1 x.2.1 x.2.2.1, .int .i64 0]) ∧ OutP s u x.2.2.2 ∧ x.2.2.2.length = x.2.1) ?_ H i hi).mono fun e w' ⟨⟨A, n, cap, o⟩, ⟨h1, h2, h3⟩, s⟩ => ⟨A, n, cap, o, h1, h2, h3, s⟩
    intro w S h
    obtain ⟨l, hl, h⟩ := h
    obtain ⟨m, hg⟩ := goB_ex s.cost u l
    obtain ⟨hl', ho⟩ := hl.goB ok hu hf hg
    have hcnt := hl.cnt ok
    have hle := cntO_le s.op
    have hbd : ∀ x, x ∈ l → s.cost ≤ x.2 ∧ x.2 < 4611686018427387904 := fun x hx => by
      obtain ⟨k, hk⟩ := hl.open_ ok hx
      have := ok.bd k x hk
      have := ok.n0
      exact ⟨by omega, by omega⟩
    refine (rbGo_c h hl.ids (by omega) hun hbd (by have := ok.c0; omega) hb.1 hb.2 hg).mono fun e w' hp => ?_
    unfold GoB1 at hp
    obtain ⟨G', n', d', he, hn', s'⟩ := hp
    refine ⟨(G', n', d', s.un ++ outL (l.take m)), ⟨he, ho, hn'⟩, ?_⟩
    have e1 : (s.gon u).cost = s.cost ∧ (s.gon u).now = u ∧ (s.gon u).un = [] := by unfold Bk.gon; rw [if_pos hf]; exact ⟨rfl, rfl, rfl⟩
    exact (St.fold (A := [LisR 50 3 (.slice G' n' d') n' (fvs (s.un ++ outL (l.take m)))]) (B := [RBF r s.cost u [] (l.drop m)]) (St.comm (A := [RBF r s.cost u [] (l.drop m)]) s') (RBK.ok r (s.gon u)) fun S' h => ⟨_, hl', by rw [e1.1, e1.2.1, e1.2.2]; exact star_one h⟩).comm
  · have h2 : s.gon u = s := by unfold Bk.gon; rw [if_neg hf]
    rw [h2, set_same hi]
    obtain ⟨S, l, hl, h⟩ := H.get i hi
    have hg : goA s.now u = (if 4611686018427387904 ≤ u then 2 else 1) ∧ (4611686018427387904 ≤ u ∨ u < s.now) := by
      unfold goA at hf ⊢
      by_cases k1 : u < 4611686018427387904
      · rw [if_pos k1] at hf ⊢
        by_cases k2 : u < s.now
        · rw [if_pos k2, if_neg (by omega)]; exact ⟨rfl, Or.inr k2⟩
        · rw [if_neg k2] at hf; exact absurd rfl hf
      · rw [if_neg k1, if_pos (by omega)]; exact ⟨rfl, Or.inl (by omega)⟩
    refine (rbGo_no h hg.1 hg.2).mono fun e w' ⟨he, hb⟩ => ⟨none, 0, 0, [], he, by unfold OutP; rw [if_neg hf], rfl, ?_⟩
    exact (H.stay hb).lis_nil 50 3
end
end
end Go.Proofs.Ythdhfjcgboglfaa
