/- A string's iterator as a thing of one's own beside others: begun, moved on, dropped. Plain theorems; nothing of one law. -/
import Derived.Test.YtlceanlenekanaaDoorSep
import Derived.Lib.OthersKept
namespace Go.Proofs.YtlceanlenekanaaDoor
open Go.RowKit
set_option linter.unusedVariables false
/-- The iterator in block k stands at a place of the string. -/
def IterR (k : Nat) (s : ByteArray) (pos : Nat) : Res := fun w S => w.heap[k]? = some (.stringIter s pos) ∧ ∀ b, S b ↔ b = k
theorem IterR.ok (k : Nat) (s : ByteArray) (pos : Nat) : Ok (IterR k s pos) :=
  ⟨fun ⟨h, hs⟩ b hb => by rw [(hs b).1 hb]; exact (Array.getElem?_eq_some_iff.1 h).1, fun ⟨h, hs⟩ hk => ⟨(hk k ((hs k).2 rfl)).trans h, hs⟩⟩
section
variable {w0 w w' : World} {S0 : Nat → Prop} {L : List Res} {k pos : Nat} {s : ByteArray}
theorem St.iter (h : St w0 S0 w L) (s : ByteArray) (pos : Nat) : St w0 S0 (w.alloc (.stringIter s pos)) (L ++ [IterR w.heap.size s pos]) :=
  h.more ((Below.refl _ _).alloc (Nat.le_refl _) _) (Star.one (IterR.ok _ _ _) ⟨by show (w.heap.push _)[w.heap.size]? = _; simp, fun b => Iff.rfl⟩) (fun b hb => by have hb : b = w.heap.size := hb; omega)
theorem St.iter_at (h : St w0 S0 w L) (i : Nat) (hi : L[i]? = some (IterR k s pos)) : w.heap[k]? = some (.stringIter s pos) := by obtain ⟨S, hb, _⟩ := h.get i hi; exact hb
theorem St.iter_pos (h : St w0 S0 w L) (i : Nat) (hi : L[i]? = some (IterR k s pos)) : w.iterPos k = pos := by simp [World.iterPos, h.iter_at i hi]
theorem St.iter_step (h : St w0 S0 w L) (i : Nat) (hi : L[i]? = some (IterR k s pos)) (pos' : Nat) : St w0 S0 (w.iterAt k s pos') (L.set i (IterR k s pos')) :=
  h.turn hi (IterR.ok _ _ _) fun T ⟨hb, hT⟩ => ⟨T, ⟨Lib.iterAt_heap w k s pos pos' hb, hT⟩, ⟨rfl, rfl, rfl, by rw [Lib.iterAt_size]; exact Nat.le_refl _, fun j _ hn => Lib.iterAt_other w k j s pos' fun e => hn (by rw [e]; exact (hT k).2 rfl), fun b hb => Or.inl hb⟩⟩
end
end Go.Proofs.YtlceanlenekanaaDoor
