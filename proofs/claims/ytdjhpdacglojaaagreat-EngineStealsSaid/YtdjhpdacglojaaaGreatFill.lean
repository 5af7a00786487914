/- The last thing stands in the place of one. Plain theorem; nothing of one law. -/
import Derived.Test.YtdjhpdacglojaaaGreatMore
namespace Go.Proofs.YtdjhpdacglojaaaGreat
open Go.RowKit
set_option linter.unusedVariables false
section
variable {w0 w : World} {S0 : Nat → Prop} {L : List Res}
/-- One of them is kept in mind no more, in its place stands the last one. -/
theorem St.place {R : Res} {q : Nat} (h : St w0 S0 w (L ++ [R])) (hq : q < L.length) : St w0 S0 w (L.set q R) := by
  obtain ⟨S, ⟨F, f1, f2, f3, f4⟩, hd⟩ := h
  refine ⟨fun x => ∃ j, (if j = q then F L.length x else j < L.length ∧ F j x), ⟨fun j x => if j = q then F L.length x else j < L.length ∧ F j x, fun j R' hR => ?_, fun i j x hi hj => ?_, fun j x hj => ?_, fun x => Iff.rfl⟩, hd.less fun x ⟨j, hj⟩ => ?_⟩
  · by_cases e : j = q
    · subst e
      rw [List.getElem?_set_self hq] at hR
      injection hR with hR
      subst hR
      simpa using f1 L.length R (by simp)
    · rw [List.getElem?_set_ne (Ne.symm e)] at hR
      have hj := (List.getElem?_eq_some_iff.1 hR).1
      have := f1 j R' (by rw [List.getElem?_append_left hj]; exact hR)
      simp only [if_neg e]
      have e2 : (fun x => j < L.length ∧ F j x) = F j := funext fun x => propext ⟨fun h => h.2, fun h => ⟨hj, h⟩⟩
      rw [e2]; exact this
  · dsimp only at hi hj
    by_cases e1 : i = q <;> by_cases e2 : j = q
    · rw [e1, e2]
    · rw [if_pos e1] at hi; rw [if_neg e2] at hj
      have := f2 _ _ x hi hj.2
      have := hj.1; omega
    · rw [if_neg e1] at hi; rw [if_pos e2] at hj
      have := f2 _ _ x hi.2 hj
      have := hi.1; omega
    · rw [if_neg e1] at hi; rw [if_neg e2] at hj
      exact f2 _ _ x hi.2 hj.2
  · dsimp only at hj
    by_cases e : j = q
    · rw [e]; simpa using hq
    · rw [if_neg e] at hj; simpa using hj.1
  · by_cases e : j = q
    · rw [if_pos e] at hj; exact (f4 x).2 ⟨_, hj⟩
    · rw [if_neg e] at hj; exact (f4 x).2 ⟨_, hj.2⟩
end
end Go.Proofs.YtdjhpdacglojaaaGreat
