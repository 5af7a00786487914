/- Strings within structs, opened. Plain theorems; nothing of one law. -/
import Derived.Test.YtlceanlenekanaaDoorOpen
namespace Go.Proofs.YtlceanlenekanaaDoor
section
variable {H : Type} {enc : TypeId × Value → H} {P : Program} {w : World}
theorem leaf_string {u : TypeId} {v : Value} (hu : P.underlying u = some .string) (h : Leaf enc P w u v) : ∃ s : ByteArray, v = .string s ∧ s.size ≤ maxLen := by
  obtain ⟨n, y, hy⟩ := h
  obtain ⟨z, hz, _, hw⟩ := DataW.trod_string hu hy
  simp at hz
  exact ⟨z, hz, hw⟩
end
end Go.Proofs.YtlceanlenekanaaDoor
