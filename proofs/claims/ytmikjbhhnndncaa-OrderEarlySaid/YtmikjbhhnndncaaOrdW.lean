/- Layer 18: who must come out first. Plain theorems. -/
import Derived.Test.YtmikjbhhnndncaaOrdB
namespace Go.Proofs.Ytmikjbhhnndncaa
open Go.RowKit
set_option linter.unusedVariables false
/-- All are later than that time, and of other numbers. -/
def Later (s : OSt) (id d : Int) : Prop := ∀ y ∈ s.l, d ≤ y.dead ∧ y.id ≠ id
theorem Later.add {s s' : OSt} {id d f : Int} {x : Wt} (h : Later s id d) (hP : AddP s x f s') (hx : d ≤ x.dead ∧ x.id ≠ id) : Later s' id d := by
  rcases hP with ⟨_, _, rfl⟩ | ⟨_, _, _, rfl⟩ | ⟨_, _, _, _, rfl⟩ | ⟨_, _, _, _, rfl⟩
  · exact h
  · exact h
  · exact h
  · intro y hy
    rcases List.mem_append.1 hy with hy | hy
    · exact h y hy
    · simp at hy; subst hy; exact hx
theorem Later.take {s s' : OSt} {id d f : Int} {x : Wt} (h : Later s id d) (hP : TakeP s x f s') : Later s' id d := fun y hy => h y (hP.sub.1 y hy)
theorem TakeP.len {s s' : OSt} {x : Wt} {f : Int} (h : TakeP s x f s') : s'.l.length ≤ s.l.length := by
  obtain ⟨up, _, ⟨_, rfl⟩ | ⟨_, i, hi, rfl⟩⟩ := h
  · exact Nat.le_refl _
  · exact List.length_eraseIdx_le _ _
theorem Later.early {s : OSt} (hs : s.ok) {e : Wt} (he : mayW e) (h : Later s e.id (e.dead + 1)) (hl : s.l.length ≤ 60) :
    ∃ s1, AddP s e 0 s1 ∧ s1.ok ∧ ∃ up s2, NextP s1 e up 0 ∧ TakeP s1 e 0 s2 ∧ s2.head = e.track := by
  have hadd : AddP s e 0 { s with l := s.l ++ [e] } := Or.inr (Or.inr (Or.inr ⟨he, fun y hy => (h y hy).2, by omega, rfl, rfl⟩))
  have hok := hadd.ok hs
  refine ⟨_, hadd, hok, ?_⟩
  obtain ⟨x, f, s2, hT⟩ := takeP_ex hok
  obtain ⟨up, hn, hcase⟩ := hT
  have hx : x = e ∧ f = 0 := by
    have hmem : ∀ u k, NearP { s with l := s.l ++ [e] } u k (some x) → x = e := fun u k hu => by
      obtain ⟨⟨i, _, hi⟩, hc, _⟩ := hu
      have hd := hc.1
      have hle := firstD_le (l := s.l ++ [e]) (x := e) (by simp)
      have hd : x.dead = firstD (s.l ++ [e]) := hd
      rcases List.mem_append.1 (List.mem_of_getElem? hi) with hy | hy
      · have := (h x hy).1; omega
      · simpa using hy
    rcases hn with ⟨h1, _⟩ | ⟨h1, _, h2⟩ | ⟨_, h1, _, h2⟩
    · simp at h1
    · exact ⟨hmem _ _ h1, h2⟩
    · exact ⟨hmem _ _ h1, h2⟩
  obtain ⟨rfl, rfl⟩ := hx
  refine ⟨up, s2, hn, ⟨up, hn, hcase⟩, ?_⟩
  rcases hcase with ⟨h1, _⟩ | ⟨_, i, _, rfl⟩
  · omega
  · rfl
end Go.Proofs.Ytmikjbhhnndncaa
