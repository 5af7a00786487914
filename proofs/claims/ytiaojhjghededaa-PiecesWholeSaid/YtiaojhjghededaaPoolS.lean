/- Layer 7: shared, dropped, given; whose it is, and how great. -/
import Derived.Test.YtiaojhjghededaaPoolW
namespace Go.Proofs.Ytiaojhjghededaa
open Go.RowKit
set_option linter.unusedVariables false
set_option maxRecDepth 100000
set_option maxHeartbeats 800000
section
variable {w0 w : World} {S S0 : Nat → Prop} {N : List Res} {p bb off cap n : Nat} {bp : Nat → Nat} {st : Nat → Buf}
theorem pool_end {w' : World} (s : St w S w' (PoolL p bb off cap bp n st ++ N)) : ∃ S', PoolR p n st w' S' ∧ Did S S' w w' := by
  have h := s.take (PoolL p bb off cap bp n st).length
  rw [List.take_left] at h
  exact h.fin fun S' h => ⟨bb, off, cap, bp, h⟩
theorem pool_begin {w : World} {S : Nat → Prop} (h : PoolR p n st w S) : ∃ bb off cap bp, St w S w (PoolL p bb off cap bp n st ++ []) := by
  obtain ⟨bb, off, cap, bp, hs⟩ := h
  exact ⟨bb, off, cap, bp, by rw [List.append_nil]; exact St.start hs⟩
/-- What a Share answers, and what is there then. -/
def ShareB (b : Buf) (c : Int) (b' : Buf) : Prop := (b.owner ≠ 1 ∧ c = 8 ∧ b' = b) ∨ (b.owner = 1 ∧ b.refs = 100 ∧ c = 4 ∧ b' = b) ∨ (b.owner = 1 ∧ b.refs ≠ 100 ∧ c = 0 ∧ b' = { b with refs := b.refs + 1 })
theorem share_b (b : Buf) : ∃ c b', ShareB b c b' := by
  by_cases h : b.owner = 1
  · by_cases h2 : b.refs = 100
    · exact ⟨_, _, Or.inr (Or.inl ⟨h, h2, rfl, rfl⟩)⟩
    · exact ⟨_, _, Or.inr (Or.inr ⟨h, h2, rfl, rfl⟩)⟩
  · exact ⟨_, _, Or.inl ⟨h, rfl, rfl⟩⟩
def DropB (b : Buf) (c : Int) (b' : Buf) : Prop := (b.owner ≠ 1 ∧ c = 8 ∧ b' = b) ∨ (b.owner = 1 ∧ b.refs ≠ 1 ∧ c = 0 ∧ b' = { b with refs := b.refs - 1 }) ∨ (b.owner = 1 ∧ b.refs = 1 ∧ c = 0 ∧ b' = { b with refs := 0, owner := 0, gen := b.gen + 1 })
theorem drop_b (b : Buf) : ∃ c b', DropB b c b' := by
  by_cases h : b.owner = 1
  · by_cases h2 : b.refs = 1
    · exact ⟨_, _, Or.inr (Or.inr ⟨h, h2, rfl, rfl⟩)⟩
    · exact ⟨_, _, Or.inr (Or.inl ⟨h, h2, rfl, rfl⟩)⟩
  · exact ⟨_, _, Or.inl ⟨h, rfl, rfl⟩⟩
theorem updB_id (st : Nat → Buf) (i : Nat) : updB st i (st i) = st := by
  funext j
  by_cases e : j = i
  · rw [e, updB_self]
  · rw [updB_ne _ _ e]
theorem updB_two (st : Nat → Buf) (i : Nat) (a b : Buf) : updB (updB st i a) i b = updB st i b := by
  funext j
  by_cases e : j = i
  · rw [e, updB_self, updB_self]
  · rw [updB_ne _ _ e, updB_ne _ _ e, updB_ne _ _ e]
end
end Go.Proofs.Ytiaojhjghededaa
