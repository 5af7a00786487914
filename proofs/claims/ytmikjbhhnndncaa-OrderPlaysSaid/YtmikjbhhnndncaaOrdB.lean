/- Layer 18: a queue without one of them. Plain theorems. -/
import Derived.Test.YtmikjbhhnndncaaOrdA
namespace Go.Proofs.Ytmikjbhhnndncaa
open Go.RowKit
set_option linter.unusedVariables false
/-- The same queue, without a number. -/
def OSt.sans (s : OSt) (id : Int) : OSt := { s with l := s.l.filter fun x => x.id ≠ id }
theorem sans_mem {s : OSt} {id : Int} {x : Wt} : x ∈ (s.sans id).l ↔ x ∈ s.l ∧ x.id ≠ id := by simp [OSt.sans]
theorem sans_len (s : OSt) (id : Int) : (s.sans id).l.length ≤ s.l.length := List.length_filter_le _ _
/-- What comes into both, if it isn't that number. -/
theorem AddP.sans {s s' : OSt} {x : Wt} {f id : Int} (h : AddP s x f s') (hx : x.id ≠ id) (hl : s.l.length < 64) : AddP (s.sans id) x f (s'.sans id) := by
  have hl2 := sans_len s id
  rcases h with ⟨h1, h2, rfl⟩ | ⟨h1, ⟨y, hy, e⟩, h3, rfl⟩ | ⟨_, _, h3, _⟩ | ⟨h1, h2, h3, h4, rfl⟩
  · exact Or.inl ⟨h1, h2, rfl⟩
  · exact Or.inr (Or.inl ⟨h1, ⟨y, sans_mem.2 ⟨hy, by rw [e]; exact hx⟩, e⟩, h3, rfl⟩)
  · omega
  · refine Or.inr (Or.inr (Or.inr ⟨h1, fun y hy => h2 y (sans_mem.1 hy).1, by omega, h4, ?_⟩))
    simp [OSt.sans, List.filter_append, hx]
/-- That number itself comes into the one alone. -/
theorem AddP.same {s s' : OSt} {x : Wt} {f : Int} (h : AddP s x f s') : s'.sans x.id = s.sans x.id ∧ ((f = 0 ∧ ∃ y ∈ s'.l, y.id = x.id) ∨ (f ≠ 0 ∧ s' = s)) := by
  rcases h with ⟨h1, h2, rfl⟩ | ⟨h1, ⟨y, hy, e⟩, h3, rfl⟩ | ⟨_, _, h3, h4, rfl⟩ | ⟨h1, h2, h3, h4, rfl⟩
  · exact ⟨rfl, Or.inr ⟨by omega, rfl⟩⟩
  · exact ⟨rfl, Or.inr ⟨by omega, rfl⟩⟩
  · exact ⟨rfl, Or.inr ⟨by omega, rfl⟩⟩
  · exact ⟨by simp [OSt.sans, List.filter_append], Or.inl ⟨h4, x, by simp, rfl⟩⟩
theorem AddP.mem {s s' : OSt} {x : Wt} {f id : Int} (h : AddP s x f s') (hx : x.id ≠ id) : (∃ y ∈ s'.l, y.id = id) ↔ ∃ y ∈ s.l, y.id = id := by
  rcases h with ⟨_, _, rfl⟩ | ⟨_, _, _, rfl⟩ | ⟨_, _, _, _, rfl⟩ | ⟨_, _, _, _, rfl⟩
  · exact Iff.rfl
  · exact Iff.rfl
  · exact Iff.rfl
  · constructor
    · rintro ⟨y, hy, e⟩
      rcases List.mem_append.1 hy with hy | hy
      · exact ⟨y, hy, e⟩
      · simp at hy; subst hy; exact absurd e hx
    · rintro ⟨y, hy, e⟩; exact ⟨y, List.mem_append_left _ hy, e⟩
theorem AddP.len {s s' : OSt} {x : Wt} {f : Int} (h : AddP s x f s') : s'.l.length ≤ s.l.length + 1 := by
  rcases h with ⟨_, _, rfl⟩ | ⟨_, _, _, rfl⟩ | ⟨_, _, _, _, rfl⟩ | ⟨_, _, _, _, rfl⟩ <;> simp
theorem OSt.ok.sans {s : OSt} (hs : s.ok) (id : Int) : (s.sans id).ok := by
  refine ⟨fun x hx => hs.may x (sans_mem.1 hx).1, Nat.le_trans (sans_len s id) hs.len, ?_, hs.hd⟩
  -- numbers stay apart
  have hnd : (s.l.map (·.id)).Nodup := by
    rw [List.nodup_iff_pairwise_ne, List.pairwise_iff_getElem]
    intro i j hi hj hij e
    simp only [List.getElem_map] at e
    simp only [List.length_map] at hi hj
    have := hs.one i j _ _ (List.getElem?_eq_getElem hi) (List.getElem?_eq_getElem hj) e
    omega
  have hnd2 : ((s.sans id).l.map (·.id)).Nodup := hnd.sublist (List.filter_sublist.map _)
  intro i j x y hi hj e
  have h1 := (List.getElem?_eq_some_iff.1 hi)
  have h2 := (List.getElem?_eq_some_iff.1 hj)
  obtain ⟨a1, a2⟩ := h1
  obtain ⟨b1, b2⟩ := h2
  rw [List.nodup_iff_pairwise_ne, List.pairwise_iff_getElem] at hnd2
  rcases Nat.lt_trichotomy i j with h | h | h
  · exact ((hnd2 i j (by simpa using a1) (by simpa using b1) h) (by rw [List.getElem_map, List.getElem_map]; exact (congrArg Wt.id a2).trans (e.trans (congrArg Wt.id b2).symm))).elim
  · exact h
  · exact ((hnd2 j i (by simpa using b1) (by simpa using a1) h) (by rw [List.getElem_map, List.getElem_map]; exact (congrArg Wt.id b2).trans (e.symm.trans (congrArg Wt.id a2).symm))).elim
/-- Dropped, it is the queue without. -/
theorem drop_sans {s : OSt} (hs : s.ok) (id : Int) : DropP s id (if ∃ y ∈ s.l, y.id = id then 0 else 6) (s.sans id) := by
  obtain ⟨f, s', h⟩ := dropP_ex s id
  rcases h with ⟨h1, _, _⟩ | ⟨i, x, hi, rfl, _, _⟩
  · rw [if_neg (fun ⟨y, hy, e⟩ => h1 y hy e)]
    refine Or.inl ⟨h1, rfl, ?_⟩
    have : s.l.filter (fun x => x.id ≠ id) = s.l := List.filter_eq_self.2 fun x hx => by simpa using h1 x hx
    show ({ s with l := _ } : OSt) = s
    rw [this]
  · rw [if_pos ⟨x, List.mem_of_getElem? hi, rfl⟩]
    refine Or.inr ⟨i, x, hi, rfl, rfl, ?_⟩
    show ({ s with l := _ } : OSt) = { s with l := _ }
    congr 1
    obtain ⟨hil, hx⟩ := List.getElem?_eq_some_iff.1 hi
    have e : s.l = s.l.take i ++ x :: s.l.drop (i + 1) := by rw [← hx, List.getElem_cons_drop, List.take_append_drop]
    rw [List.eraseIdx_eq_take_drop_succ]
    have h1 : (s.l.take i).filter (fun y => y.id ≠ x.id) = s.l.take i := List.filter_eq_self.2 fun y hy => by
      obtain ⟨k, hk⟩ := List.mem_iff_getElem?.1 hy
      have hk2 := (List.getElem?_eq_some_iff.1 hk).1
      rw [List.getElem?_take, if_pos (by simp at hk2; omega)] at hk
      simp only [ne_eq, decide_not, Bool.not_eq_eq_eq_not, Bool.not_true, decide_eq_false_iff_not]
      intro e2
      have := hs.one k i y x hk hi e2
      simp at hk2; omega
    have h2 : (s.l.drop (i + 1)).filter (fun y => y.id ≠ x.id) = s.l.drop (i + 1) := List.filter_eq_self.2 fun y hy => by
      obtain ⟨k, hk⟩ := List.mem_iff_getElem?.1 hy
      rw [List.getElem?_drop] at hk
      simp only [ne_eq, decide_not, Bool.not_eq_eq_eq_not, Bool.not_true, decide_eq_false_iff_not]
      intro e2
      have := hs.one (i + 1 + k) i y x hk hi e2
      omega
    conv => lhs; rw [e]
    rw [List.filter_append, h1, List.filter_cons, h2]
    simp
theorem TakeP.sub {s s' : OSt} {x : Wt} {f : Int} (h : TakeP s x f s') : (∀ y ∈ s'.l, y ∈ s.l) ∧ (f = 0 → x ∈ s.l) := by
  obtain ⟨up, _, ⟨h1, rfl⟩ | ⟨h1, i, hi, rfl⟩⟩ := h
  · exact ⟨fun y hy => hy, fun h => by omega⟩
  · exact ⟨fun y hy => List.mem_of_mem_eraseIdx hy, fun _ => List.mem_of_getElem? hi⟩
theorem TakeP.code {s s' : OSt} {x : Wt} {f : Int} (h : TakeP s x f s') : f = 0 ∨ f = 5 := by
  obtain ⟨up, _, ⟨h1, rfl⟩ | ⟨h1, i, hi, rfl⟩⟩ := h
  · exact Or.inr h1
  · exact Or.inl h1
end Go.Proofs.Ytmikjbhhnndncaa
