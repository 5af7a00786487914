/- Slices of structs that came in: the cells of one element, in a later world. Plain theorems; nothing of one law. -/
import Derived.Test.YtdjhpdacglojaaaGreatFlat
import Derived.Below
namespace Go.Proofs.YtdjhpdacglojaaaGreat
open Go.RowKit
theorem RdM.at_ {w wr : World} {A : Option Addr} {n m : Nat} {V : Nat → Nat → Value} (h : RdM w A n m V) (hb : Below w.heap.size w wr) {k : Nat} (hk : k < n) :
    ∃ b off, A = some ⟨b, off, none⟩ ∧ ∀ i, i < m → wr.cell? ⟨b, off + k * m + i, none⟩ = some (V k i) := by
  obtain ⟨b, off, e, hlt, hc⟩ := h (by omega)
  exact ⟨b, off, e, fun i hi => by rw [Nat.add_assoc]; exact (hb.cell (p := ⟨b, off + (k * m + i), none⟩) hlt).trans (hc k hk i hi)⟩
theorem RdM.at2 {w wr : World} {A : Option Addr} {n : Nat} {V : Nat → Nat → Value} (h : RdM w A n 2 V) (hb : Below w.heap.size w wr) {k : Nat} (hk : k < n) :
    ∃ b off, A = some ⟨b, off, none⟩ ∧ wr.cell? ⟨b, off + k * 2, none⟩ = some (V k 0) ∧ wr.cell? ⟨b, off + k * 2 + 1, none⟩ = some (V k 1) := by
  obtain ⟨b, off, e, hc⟩ := h.at_ hb hk
  exact ⟨b, off, e, hc 0 (by omega), hc 1 (by omega)⟩
theorem RdM.at3 {w wr : World} {A : Option Addr} {n : Nat} {V : Nat → Nat → Value} (h : RdM w A n 3 V) (hb : Below w.heap.size w wr) {k : Nat} (hk : k < n) :
    ∃ b off, A = some ⟨b, off, none⟩ ∧ wr.cell? ⟨b, off + k * 3, none⟩ = some (V k 0) ∧ wr.cell? ⟨b, off + k * 3 + 1, none⟩ = some (V k 1) ∧ wr.cell? ⟨b, off + k * 3 + 2, none⟩ = some (V k 2) := by
  obtain ⟨b, off, e, hc⟩ := h.at_ hb hk
  exact ⟨b, off, e, hc 0 (by omega), hc 1 (by omega), hc 2 (by omega)⟩
theorem RdM.at4 {w wr : World} {A : Option Addr} {n : Nat} {V : Nat → Nat → Value} (h : RdM w A n 4 V) (hb : Below w.heap.size w wr) {k : Nat} (hk : k < n) :
    ∃ b off, A = some ⟨b, off, none⟩ ∧ wr.cell? ⟨b, off + k * 4, none⟩ = some (V k 0) ∧ wr.cell? ⟨b, off + k * 4 + 1, none⟩ = some (V k 1) ∧ wr.cell? ⟨b, off + k * 4 + 2, none⟩ = some (V k 2) ∧ wr.cell? ⟨b, off + k * 4 + 3, none⟩ = some (V k 3) := by
  obtain ⟨b, off, e, hc⟩ := h.at_ hb hk
  exact ⟨b, off, e, hc 0 (by omega), hc 1 (by omega), hc 2 (by omega), hc 3 (by omega)⟩
end Go.Proofs.YtdjhpdacglojaaaGreat
