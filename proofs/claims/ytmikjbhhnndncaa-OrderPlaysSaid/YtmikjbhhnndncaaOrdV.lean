/- Layer 18: all, and the next one. Plain theorems. -/
import Derived.Test.YtmikjbhhnndncaaOrdZ
namespace Go.Proofs.Ytmikjbhhnndncaa
open Go.RowKit
set_option linter.unusedVariables false
theorem NextP.dead {s : OSt} {x : Wt} {up : Bool} (h : NextP s x up 0) : x.dead = firstD s.l := by
  rcases h with ⟨_, _, _, h⟩ | ⟨h, _, _⟩ | ⟨_, h, _, _⟩
  · omega
  · exact (show _ ∧ cand s s.up x ∧ _ from h).2.1.1
  · exact (show _ ∧ cand s (!s.up) x ∧ _ from h).2.1.1
theorem NextP.code {s : OSt} {x : Wt} {up : Bool} {f : Int} (h : NextP s x up f) : (s.l = [] ∧ f = 5) ∨ (f = 0 ∧ s.l ≠ []) := by
  rcases h with ⟨h, _, _, h5⟩ | ⟨h, _, h0⟩ | ⟨_, h, _, h0⟩
  · exact Or.inl ⟨h, h5⟩
  · refine Or.inr ⟨h0, fun e => ?_⟩
    obtain ⟨i, hi⟩ := NearP.mem h
    rw [e] at hi; simp at hi
  · refine Or.inr ⟨h0, fun e => ?_⟩
    obtain ⟨i, hi⟩ := NearP.mem h
    rw [e] at hi; simp at hi
/-- The first of all is of the least time. -/
theorem all_first {s : OSt} (hs : s.ok) {l' : List Wt} (hp : l'.Perm s.l) (ho : ∀ (a b : Nat) x y, a < b → l'[a]? = some x → l'[b]? = some y → ¬ lt3 y x) {x : Wt} (hx : l'[0]? = some x) : x.dead = firstD s.l := by
  have hm : x ∈ s.l := hp.mem_iff.1 (List.mem_of_getElem? hx)
  obtain ⟨y, hy, hyd⟩ := firstD_mem hs (List.ne_nil_of_mem hm)
  obtain ⟨p, hp2⟩ := List.getElem?_of_mem (hp.mem_iff.2 hy)
  have h1 := firstD_le hm
  rcases Nat.eq_zero_or_pos p with rfl | h0
  · rw [hx] at hp2; injection hp2 with hp2; subst hp2; exact hyd
  · have := ho 0 p x y h0 hx hp2
    unfold lt3 at this
    omega
/-- Each is told once. -/
theorem all_once {s : OSt} (hs : s.ok) {l' : List Wt} (hp : l'.Perm s.l) {a b : Nat} {x y : Wt} (hab : a < b) (hx : l'[a]? = some x) (hy : l'[b]? = some y) : x.id ≠ y.id := by
  have n1 : (s.l.map Wt.id).Nodup := by
    refine List.pairwise_iff_getElem.2 fun i j hi hj hij e => ?_
    simp only [List.length_map] at hi hj
    simp only [List.getElem_map] at e
    have := hs.one i j _ _ (List.getElem?_eq_getElem hi) (List.getElem?_eq_getElem hj) e
    omega
  have n2 : (l'.map Wt.id).Nodup := (hp.map _).nodup_iff.2 n1
  have n3 := List.pairwise_iff_getElem.1 n2
  obtain ⟨ha, ex⟩ := List.getElem?_eq_some_iff.1 hx
  obtain ⟨hb, ey⟩ := List.getElem?_eq_some_iff.1 hy
  have := n3 a b (by simpa using ha) (by simpa using hb) hab
  simpa [ex, ey] using this
/-- One ahead of another one. -/
theorem ahead_ways {x y : Wt} (h : ¬ lt3 y x) (hi : x.id ≠ y.id) : x.dead < y.dead ∨ (x.dead = y.dead ∧ (x.track < y.track ∨ (x.track = y.track ∧ x.id < y.id))) := by
  unfold lt3 at h; omega
end Go.Proofs.Ytmikjbhhnndncaa
