/- Words for blocks of one's own, one for each of a set of numbers: what pointers in maps point at. Plain theorems; nothing of one law. -/
import Derived.Test.YtdjhpdacglojaaaGreatMore
namespace Go.Proofs.YtdjhpdacglojaaaGreat
open Go.RowKit
set_option linter.unusedVariables false
/-- A block for each of a set. -/
def ManyR (t : TypeId) (live : Nat → Prop) (bp : Nat → Nat) (cs : Nat → Array Value) : Res := fun w S => (∀ k, live k → Blk w (bp k) t (cs k)) ∧ (∀ j k, live j → live k → bp j = bp k → j = k) ∧ ∀ b, S b ↔ ∃ k, live k ∧ b = bp k
theorem ManyR.ok (t : TypeId) (live : Nat → Prop) (bp : Nat → Nat) (cs : Nat → Array Value) : Ok (ManyR t live bp cs) :=
  ⟨fun ⟨h, _, hs⟩ b hb => by obtain ⟨k, hk, rfl⟩ := (hs b).1 hb; exact (h k hk).lt, fun ⟨h, hu, hs⟩ hk => ⟨fun k hl => (hk (bp k) ((hs _).2 ⟨k, hl, rfl⟩)).trans (h k hl), hu, hs⟩⟩
section
variable {w0 w w' : World} {S0 : Nat → Prop} {L : List Res} {t : TypeId} {live : Nat → Prop} {bp : Nat → Nat} {cs : Nat → Array Value}
theorem St.many (h : St w0 S0 w L) (i : Nat) (hi : L[i]? = some (ManyR t live bp cs)) {k : Nat} (hk : live k) : Blk w (bp k) t (cs k) := by
  obtain ⟨S, hb, _⟩ := h.get i hi; exact hb k hk
theorem St.many_uniq (h : St w0 S0 w L) (i : Nat) (hi : L[i]? = some (ManyR t live bp cs)) {j k : Nat} (hj : live j) (hk : live k) (e : bp j = bp k) : j = k := by
  obtain ⟨S, _, hu, _⟩ := h.get i hi; exact hu j k hj hk e
theorem St.many_nil (h : St w0 S0 w L) (t : TypeId) (bp : Nat → Nat) (cs : Nat → Array Value) : St w0 S0 w (L ++ [ManyR t (fun _ => False) bp cs]) :=
  h.more (Below.refl _ _) (Star.one (ManyR.ok _ _ _ _) ⟨fun k hk => hk.elim, fun _ _ hj => hj.elim, fun b => ⟨fun hb => hb.elim, fun ⟨_, hk, _⟩ => hk.elim⟩⟩ : Star [ManyR t (fun _ => False) bp cs] w (fun _ => False)) (fun b hb => hb.elim)
/-- A cell of one of them is written. -/
theorem St.many_set (h : St w0 S0 w L) (i : Nat) (hi : L[i]? = some (ManyR t live bp cs)) {k : Nat} (hk : live k) (o : Nat) (u : Value) :
    St w0 S0 (w.setCell ⟨bp k, o, none⟩ u) (L.set i (ManyR t live bp (fun j => if j = k then (cs k).setIfInBounds o u else cs j))) :=
  h.turn hi (ManyR.ok _ _ _ _) fun T ⟨hb, hu, hT⟩ => ⟨T, ⟨fun j hj => by
    dsimp only
    by_cases e : j = k
    · subst e; rw [if_pos rfl]; exact (hb j hj).set_ o u
    · rw [if_neg e]; exact (hb j hj).far (fun e2 => e (hu j k hj hk e2)) u, hu, hT⟩, Did.of_only ((Only.refl (bp k) w).set_ o u) ((hT _).2 ⟨k, hk, rfl⟩) fun b h => Or.inl h⟩
/-- Fewer are spoken of. -/
theorem St.many_less (h : St w0 S0 w L) (i : Nat) (hi : L[i]? = some (ManyR t live bp cs)) {live' : Nat → Prop} (hl : ∀ k, live' k → live k) {cs' : Nat → Array Value} (hc : ∀ k, live' k → cs' k = cs k) : St w0 S0 w (L.set i (ManyR t live' bp cs')) :=
  h.turn hi (ManyR.ok _ _ _ _) fun T ⟨hb, hu, hT⟩ => ⟨fun b => ∃ k, live' k ∧ b = bp k, ⟨fun k hk => by rw [hc k hk]; exact hb k (hl k hk), fun j k hj hk => hu j k (hl j hj) (hl k hk), fun b => Iff.rfl⟩, (Did.refl T w).less fun b ⟨k, hk, e⟩ => (hT b).2 ⟨k, hl k hk, e⟩⟩
/-- The last box is one of them. -/
theorem St.many_box {g : Nat} {c : Array Value} (h : St w0 S0 w (L ++ [ManyR t live bp cs] ++ [BlkR g t c])) {k : Nat} (hk : ¬ live k) :
    St w0 S0 w (L ++ [ManyR t (fun j => live j ∨ j = k) (fun j => if j = k then g else bp j) (fun j => if j = k then c else cs j)]) := by
  rw [List.append_assoc] at h
  have hd : ∀ j, live j → bp j ≠ g := fun j hj e => by
    have e1 : (L ++ ([ManyR t live bp cs] ++ [BlkR g t c]))[L.length]? = some (ManyR t live bp cs) := by simp
    have e2 : (L ++ ([ManyR t live bp cs] ++ [BlkR g t c]))[L.length + 1]? = some (BlkR g t c) := by simp
    obtain ⟨S, ⟨F, f1, f2, f3, f4⟩, _⟩ := h
    obtain ⟨_, _, hs⟩ := (f1 _ _ e1).2
    obtain ⟨_, hs2⟩ := (f1 _ _ e2).2
    have := f2 _ _ (bp j) ((hs _).2 ⟨j, hj, rfl⟩) ((hs2 _).2 e)
    omega
  refine St.fold h (ManyR.ok _ _ _ _) fun S hst => ?_
  obtain ⟨F, f1, f2, f3, f4⟩ := hst
  obtain ⟨hb, hu, hs⟩ := (f1 0 _ rfl).2
  obtain ⟨hb2, hs2⟩ := (f1 1 _ rfl).2
  refine ⟨fun j hj => ?_, fun i j hi hj e => ?_, fun b => ?_⟩
  · dsimp only
    have hj : live j ∨ j = k := hj
    by_cases e : j = k
    · rw [if_pos e, if_pos e]; exact hb2
    · rw [if_neg e, if_neg e]; exact hb j (hj.resolve_right e)
  · dsimp only at e
    have hi : live i ∨ i = k := hi
    have hj : live j ∨ j = k := hj
    by_cases ei : i = k
    · by_cases ej : j = k
      · rw [ei, ej]
      · rw [if_pos ei, if_neg ej] at e; exact absurd e.symm (hd j (hj.resolve_right ej))
    · by_cases ej : j = k
      · rw [if_neg ei, if_pos ej] at e; exact absurd e (hd i (hi.resolve_right ei))
      · rw [if_neg ei, if_neg ej] at e; exact hu i j (hi.resolve_right ei) (hj.resolve_right ej) e
  · rw [f4]
    constructor
    · rintro ⟨i, hi⟩
      have := f3 i b hi
      match i, this with
      | 0, _ =>
        obtain ⟨j, hj, e⟩ := (hs b).1 hi
        exact ⟨j, Or.inl hj, by dsimp only; rw [if_neg (show ¬ j = k from fun e2 => hk (e2 ▸ hj))]; exact e⟩
      | 1, _ => exact ⟨k, Or.inr rfl, by dsimp only; rw [if_pos rfl]; exact (hs2 b).1 hi⟩
    · rintro ⟨j, hj, e⟩
      dsimp only at e
      have hj : live j ∨ j = k := hj
      by_cases ej : j = k
      · rw [if_pos ej] at e; exact ⟨1, (hs2 b).2 e⟩
      · rw [if_neg ej] at e; exact ⟨0, (hs b).2 ⟨j, hj.resolve_right ej, e⟩⟩
end
end Go.Proofs.YtdjhpdacglojaaaGreat
