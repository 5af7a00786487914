/- Slices of structs of numbers and bools that came in, opened at every index. Plain theorems over any program; nothing of one law. -/
import Derived.Test.YtdjhpdacglojaaaGreatFr
import Derived.ChangeSame
import Derived.ChangeArms
namespace Go.Proofs.YtdjhpdacglojaaaGreat
open Go.ChangeShapes Go.WideShapes Go.ChangeAt Go.RowKit Go.Deep
section
variable {H : Type} {enc : TypeId × Value → H} {P : Program} {w : World}
/-- The slice's element j holds V j 0, V j 1, .., one cell each. -/
def RdM (w : World) (A : Option Addr) (n m : Nat) (V : Nat → Nat → Value) : Prop := 0 < n → ∃ b off, A = some ⟨b, off, none⟩ ∧ b < w.heap.size ∧ ∀ j, j < n → ∀ i, i < m → w.cell? ⟨b, off + (j * m + i), none⟩ = some (V j i)
theorem take1 {α : Type} {cs : List α} {i : Nat} (d : α) (h : i < cs.length) : (cs.drop i).take 1 = [cs.getD i d] := by
  have e : cs.getD i d = cs[i] := by simp [List.getD, List.getElem?_eq_getElem h]
  rw [e, List.drop_eq_getElem_cons h]; rfl
theorem open_slice_flat {t e : TypeId} {fs : Array Field} {m : Nat} {v : Value} {d : DataW H} {ps : List MemPlace} {r : Reach} {base : Nat} (ht : P.underlying t = some (.slice e)) (he : P.underlying e = some (.struct fs)) (hc : P.cellsOf e = m) (hm : fs.size = m) (h0 : 0 < m)
    (ho : ∀ (i : Nat) (f : Field), fs[i]? = some f → f.offset = i ∧ P.cellsOf f.type = 1)
    (hv : Value.okWide P w r base t v) (h : DataW.Trod enc P w 0 (fun _ => true) true t v d ps) :
    ∃ (A : Option Addr) (n cap : Nat) (V : Nat → Nat → Value), v = .slice A n cap ∧ n ≤ cap ∧ cap ≤ maxLen ∧ RdM w A n m V ∧
      ∀ (i : Nat) (f : Field), fs[i]? = some f → (∀ k, P.underlying f.type = some (.int k) → ∀ j, j < n → ∃ z, V j i = .int k z ∧ (Lit.int k z).wf = true) ∧ (P.underlying f.type = some .bool → ∀ j, j < n → ∃ b, V j i = .bool b) := by
  obtain ⟨A, n, cap, rfl⟩ := okWide_slice ht hv
  obtain ⟨fuel, hf⟩ := h
  rcases open_slice ht (cs := [.slice A n cap]) hf with ⟨hcs, _⟩ | ⟨a, len, cp, q, k, D, Pl, hcs, _, hl, hmx, hmm, _, hx⟩
  · simp at hcs
    obtain ⟨rfl, rfl, rfl⟩ := hcs
    exact ⟨none, 0, 0, fun _ _ => .int .i64 0, rfl, Nat.le_refl _, by unfold maxLen; omega, fun h => absurd h (by omega), fun _ _ _ => ⟨fun _ _ j hj => absurd hj (by omega), fun _ j hj => absurd hj (by omega)⟩⟩
  · simp at hcs
    obtain ⟨rfl, rfl, rfl⟩ := hcs
    rw [hc] at hx
    have each : ∀ j, j < n → ∃ cs : List Value, (∀ i, i < m → w.cell? (a.add (j * m + i)) = some (cs.getD i (.int .i64 0))) ∧
        ∀ (i : Nat) (f : Field), fs[i]? = some f → ∃ k y, DataW.trod enc P w 0 (fun _ => true) true k f.type [cs.getD i (.int .i64 0)] = some y := by
      intro j hj
      obtain ⟨cs', h1, h2⟩ := hx j (by simp at hmm; omega)
      obtain ⟨_, hlen, hcell⟩ := World.cells?_some h1
      obtain ⟨xs, k', hk, hxy, _, hxl, hf'⟩ := DataW.trod_struct he h2
      refine ⟨cs', fun i hi => ?_, fun i f hif => ?_⟩
      · have := hcell i hi
        rw [add_add] at this
        rw [this]; simp [List.getD, List.getElem?_eq_getElem (show i < cs'.length by omega)]
      · have hi : i < m := by
          rcases Nat.lt_or_ge i fs.size with h | h
          · omega
          · rw [Array.getElem?_eq_none h] at hif; cases hif
        have g := hf' i f hif
        obtain ⟨o, c⟩ := ho i f hif
        rw [o, c, take1 (.int .i64 0) (by omega), List.getElem?_eq_getElem (show i < xs.length by omega)] at g
        exact ⟨_, _, g⟩
    obtain ⟨C, hC⟩ := choose_lt each
    refine ⟨some a, n, cap, fun j i => (C j).getD i (.int .i64 0), rfl, hl, hmx, ?_, fun i f hif => ⟨fun k hk j hj => ?_, fun hb j hj => ?_⟩⟩
    · intro hn
      obtain ⟨b, off, spot⟩ := a
      have h00 := (hC 0 hn).1 0 h0
      have hspot : spot = none := by simpa [Addr.add] using World.cell?_spot h00
      subst hspot
      refine ⟨b, off, rfl, ?_, fun j hj i hi => by rw [← add_plain]; exact (hC j hj).1 i hi⟩
      have := block_lt h00
      simpa [Addr.add] using this
    · obtain ⟨k', y, hy⟩ := (hC j hj).2 i f hif
      obtain ⟨z, hz, _, hw⟩ := DataW.trod_int hk hy
      simp at hz
      exact ⟨z, by simpa using hz, hw⟩
    · obtain ⟨k', y, hy⟩ := (hC j hj).2 i f hif
      obtain ⟨z, hz, _⟩ := DataW.trod_bool hb hy
      simp at hz
      exact ⟨z, by simpa using hz⟩
theorem RdM.below {w' : World} {A : Option Addr} {n m : Nat} {V : Nat → Nat → Value} {B : Nat} (h : RdM w A n m V) (hb : Below B w w') (hB : w.heap.size ≤ B) : RdM w' A n m V := by
  intro hn
  obtain ⟨b, off, e, hlt, hc⟩ := h hn
  exact ⟨b, off, e, Nat.lt_of_lt_of_le hlt hb.size, fun j hj i hi => (hb.cell (p := ⟨b, off + (j * m + i), none⟩) (by show b < B; omega)).trans (hc j hj i hi)⟩
end
end Go.Proofs.YtdjhpdacglojaaaGreat
