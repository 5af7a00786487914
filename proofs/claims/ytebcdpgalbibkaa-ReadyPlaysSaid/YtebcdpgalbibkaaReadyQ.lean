/- Layer 15: the document's own queue: Come. Printed by bin/genY2.py. -/
import Derived.Test.YtebcdpgalbibkaaReadyS
import Derived.Test.YtebcdpgalbibkaaReadyH
namespace Go.Proofs.Ytebcdpgalbibkaa
open Go.RowKit
set_option linter.unusedVariables false
set_option maxRecDepth 100000
set_option maxHeartbeats 16000000
theorem come_split (s : QS) (id p : Nat) (hp : p < 101) {m : Nat} (h : s.ok m) : ∃ i, i ≤ s.all.length ∧ (s.come id p).all = s.all.take i ++ [(id, p)] ++ s.all.drop i ∧ (∀ (k : Nat) (x : Nat × Nat), k < i → s.all[k]? = some x → x.2 ≤ p) ∧ ∀ x, s.all[i]? = some x → p < x.2 := by
  have e1 := all_split s p hp
  have e2 := come_all s id p hp
  have h1 : ∀ x, x ∈ flat s.lst (p + 1) → x.2 ≤ p := fun x hx => by have := (flat_mem.1 hx).1; omega
  have h2 : ∀ x, x ∈ flatFrom s.lst (p + 1) (100 - p) → p < x.2 := fun x hx => by have := (flatFrom_mem hx).1; omega
  generalize flat s.lst (p + 1) = F at *
  generalize flatFrom s.lst (p + 1) (100 - p) = G at *
  generalize (s.come id p).all = l' at *
  generalize s.all = l at *
  subst e1 e2
  refine ⟨F.length, by simp, by simp, fun k x hk hx => ?_, fun x hx => ?_⟩
  · rw [List.getElem?_append_left hk] at hx; exact h1 x (List.mem_of_getElem? hx)
  · rw [List.getElem?_append_right (Nat.le_refl _)] at hx; exact h2 x (List.mem_of_getElem? hx)
end Go.Proofs.Ytebcdpgalbibkaa
