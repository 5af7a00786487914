/- Layer 15: who changes: where it stands. -/
import Derived.Test.YtebcdpgalbibkaaReadyB
namespace Go.Proofs.Ytebcdpgalbibkaa
open Go.RowKit
set_option linter.unusedVariables false
def lastAt (l : List Nat) (k : Nat) : Nat → Int
  | 0 => -1
  | i + 1 => if l[i]? = some k then (i : Int) else lastAt l k i
theorem lastAt_is {l : List Nat} {k a : Nat} (hn : l.Nodup) (ha : l[a]? = some k) : ∀ i, lastAt l k i = if i ≤ a then -1 else (a : Int)
  | 0 => by rw [if_pos (by omega)]; rfl
  | i + 1 => by
    show (if l[i]? = some k then (i : Int) else lastAt l k i) = _
    by_cases e : l[i]? = some k
    · rw [if_pos e]
      obtain ⟨h1, e1⟩ := List.getElem?_eq_some_iff.1 ha
      obtain ⟨h2, e2⟩ := List.getElem?_eq_some_iff.1 e
      have : i = a := by
        rcases Nat.lt_trichotomy i a with h | h | h
        · exact absurd (e2.trans e1.symm) (List.pairwise_iff_getElem.1 hn i a h2 h1 h)
        · exact h
        · exact absurd (e1.trans e2.symm) (List.pairwise_iff_getElem.1 hn a i h1 h2 h)
      subst this
      rw [if_neg (by omega)]
    · rw [if_neg e, lastAt_is hn ha i]
      have : i ≠ a := fun h => e (h ▸ ha)
      by_cases h : i ≤ a
      · rw [if_pos h, if_pos (by omega)]
      · rw [if_neg h, if_neg (by omega)]
def keepP (P : Nat → Nat) (k p : Nat) (j : Nat) : Bool := decide (j ≠ k) && decide (P j ≤ p)
def cntP (P : Nat → Nat) (k p : Nat) (l : List Nat) (i : Nat) : Nat := ((l.take i).filter (keepP P k p)).length
theorem cntP_snoc {P : Nat → Nat} {k p : Nat} {l : List Nat} {i x : Nat} (h : l[i]? = some x) : cntP P k p l (i + 1) = cntP P k p l i + if keepP P k p x then 1 else 0 := by
  unfold cntP
  rw [List.take_add_one, h, List.filter_append, List.length_append]
  congr 1
  cases hb : keepP P k p x <;> simp [hb]
theorem cntP_le {P : Nat → Nat} {k p : Nat} {l : List Nat} {i : Nat} : cntP P k p l i ≤ l.length := by
  unfold cntP
  exact Nat.le_trans (List.length_filter_le _ _) (by rw [List.length_take]; omega)
theorem lastAt_snoc {l : List Nat} {i k x : Nat} (h : l[i]? = some x) : lastAt l k (i + 1) = if x = k then (i : Int) else lastAt l k i := by
  show (if l[i]? = some k then (i : Int) else lastAt l k i) = _
  rw [h]
  by_cases e : x = k
  · subst e; rw [if_pos rfl, if_pos rfl]
  · rw [if_neg e, if_neg (fun h => e (by injection h))]
theorem flatFrom_mem {f : Nat → List Nat} {a : Nat} {x : Nat × Nat} : ∀ {b : Nat}, x ∈ flatFrom f a b → a ≤ x.2 ∧ x.1 ∈ f x.2
  | 0, h => by simp [flatFrom] at h
  | b + 1, h => by
    simp only [flatFrom, List.mem_append, List.mem_map] at h
    rcases h with h | ⟨i, h1, rfl⟩
    · exact flatFrom_mem h
    · exact ⟨by show a ≤ a + b; omega, h1⟩
structure Chg (P : Nat → Nat) (n k p : Nat) (s s' : QS) : Prop where
  ch : ChangeP s (k : Nat) (p : Nat) 0 s'
  ok : s'.ok (n + 1)
  len : s'.all.length = n
  lt : ∀ j, j ∈ s'.ids → j < n
  fin : (P k = p ∧ s' = s) ∨ (P k ≠ p ∧ ∃ a, lastAt s'.ids k n = (a : Nat) ∧ cntP P k p s'.ids n = a)
theorem chg_ex {P : Nat → Nat} {n k p : Nat} {s : QS} (c : Came P n s) (hk : k < n) (hn : n ≤ 64) (hp : p < 101) (hP : ∀ j, P j < 101) : ∃ s', Chg P n k p s s' := by
  have hpr : s.pr k = some (P k) := by rw [c.pr, if_pos hk]
  have hq : mayQ (k : Nat) (p : Nat) := ⟨⟨by omega, by omega⟩, by omega, by omega⟩
  have hlt : ∀ j, j ∈ s.ids → j < n := fun j hj => by
    have h := c.ok.mem_ids.1 hj
    rw [c.pr] at h
    by_cases e : j < n
    · exact e
    · rw [if_neg e] at h; cases h
  by_cases e : P k = p
  · exact ⟨s, Or.inr (Or.inr (Or.inl ⟨hq, by rw [Int.toNat_natCast, Int.toNat_natCast, hpr, e], rfl, rfl⟩)), c.ok.more (by omega) (by omega), c.len, hlt, Or.inl ⟨e, rfl⟩⟩
  · have hi : (s.pr k).isSome = true := by rw [hpr]; rfl
    have hgo := c.ok.go k
    have hno := go_none s k
    have hok := hgo.come (id := k) (p := p) (by omega) hp hno (by omega)
    have hlen : ((s.go k).come k p).all.length = n := by
      have := go_len c.ok hi; have := c.len
      rw [come_len _ hp]; omega
    have hmem : ∀ (j q : Nat), j ∈ (s.go k).lst q → j ≠ k ∧ q = P j := fun j q hj => by
      have h := (hgo.mem q j).1 hj
      have h : (if j = k then none else s.pr j) = some q := h
      by_cases e2 : j = k
      · rw [if_pos e2] at h; cases h
      · rw [if_neg e2, c.pr] at h
        by_cases e3 : j < n
        · rw [if_pos e3] at h; injection h with h; exact ⟨e2, h.symm⟩
        · rw [if_neg e3] at h; cases h
    have hids : ((s.go k).come k p).ids = (flat (s.go k).lst (p + 1)).map Prod.fst ++ k :: (flatFrom (s.go k).lst (p + 1) (100 - p)).map Prod.fst := by
      unfold QS.ids
      rw [come_all _ k p hp]; simp
    have hA : ∀ j, j ∈ (flat (s.go k).lst (p + 1)).map Prod.fst → keepP P k p j = true := fun j hj => by
      obtain ⟨x, hx, rfl⟩ := List.mem_map.1 hj
      obtain ⟨h1, h2⟩ := flat_mem.1 hx
      obtain ⟨h3, h4⟩ := hmem _ _ h2
      unfold keepP
      rw [decide_eq_true h3, decide_eq_true (by omega)]; rfl
    have hB : ∀ j, j ∈ (flatFrom (s.go k).lst (p + 1) (100 - p)).map Prod.fst → ¬ keepP P k p j = true := fun j hj => by
      obtain ⟨x, hx, rfl⟩ := List.mem_map.1 hj
      obtain ⟨h1, h2⟩ := flatFrom_mem hx
      obtain ⟨h3, h4⟩ := hmem _ _ h2
      unfold keepP
      rw [decide_eq_false (p := P x.1 ≤ p) (by omega)]; simp
    have hnd := hok.ids_nd
    have hll : ((s.go k).come k p).ids.length = n := (ids_len _).trans hlen
    refine ⟨(s.go k).come k p, Or.inr (Or.inr (Or.inr ⟨hq, ⟨P k, by rw [Int.toNat_natCast]; exact hpr, by rw [Int.toNat_natCast]; exact e⟩, rfl, by rw [Int.toNat_natCast, Int.toNat_natCast]⟩)), hok, hlen, fun j hj => ?_, Or.inr ⟨e, ((flat (s.go k).lst (p + 1)).map Prod.fst).length, ?_, ?_⟩⟩
    · have h := hok.mem_ids.1 hj
      have h : (if j = k then some p else (s.go k).pr j).isSome = true := h
      by_cases e2 : j = k
      · omega
      · rw [if_neg e2] at h
        have h : (if j = k then none else s.pr j).isSome = true := h
        rw [if_neg e2] at h
        exact hlt j (c.ok.mem_ids.2 h)
    · have ha : ((s.go k).come k p).ids[((flat (s.go k).lst (p + 1)).map Prod.fst).length]? = some k := by
        rw [hids, List.getElem?_append_right (Nat.le_refl _), Nat.sub_self]; rfl
      rw [lastAt_is hnd ha, if_neg]
      have := (List.getElem?_eq_some_iff.1 ha).1
      omega
    · unfold cntP
      rw [List.take_of_length_le (by omega), hids, List.filter_append, List.filter_eq_self.2 hA, List.filter_cons, if_neg (by unfold keepP; simp), List.filter_eq_nil_iff.2 hB]
      simp
end Go.Proofs.Ytebcdpgalbibkaa
