/- Words for lists of structs: cells laid anew within a list; one element cleared. Plain theorems; nothing of one law. -/
import Derived.Test.YtdjhpdacglojaaaGreatLis
import Derived.Test.YtdjhpdacglojaaaGreatMore
import Derived.Lib.SliceRun
namespace Go.Proofs.YtdjhpdacglojaaaGreat
open Go.RowKit
set_option linter.unusedVariables false
/-- Cells laid anew within a list. -/
theorem lis_within_m {w : World} {e : TypeId} {g off n cap m : Nat} {xs : List Value} (h : Lis w e m (.slice (some ⟨g, off, none⟩) n cap) n xs) (a : Nat) (news : List Value) (ha : a + news.length ≤ n * m) (h0 : 0 < n) :
    Lis (w.setCells g (off + a) news) e m (.slice (some ⟨g, off, none⟩) n cap) n (xs.take a ++ news ++ xs.drop (a + news.length)) ∧ Only g w (w.setCells g (off + a) news) := by
  have hxl : xs.length = n * m := h.1
  rcases h.2 with ⟨hv, _⟩ | ⟨g', off', cp, arr, hv, hh, hn, hm, hs, hx⟩
  · cases hv
  injection hv with hA _ hc
  injection hA with hA
  injection hA with hA ho
  subst hA ho hc
  obtain ⟨arr', h2, h3⟩ := heap_setCells g e news (off + a) w arr hh
  have hnm : n * m ≤ cap * m := Nat.mul_le_mul_right m hn
  have hin : ∀ j, j < news.length → (w.cell? ⟨g, off + a + j, none⟩).isSome = true := fun j hj => by
    have hsz := hs (by omega)
    simp [World.cell?, hh]; omega
  refine ⟨⟨by simp; omega, Or.inr ⟨g, off, cap, arr', rfl, h2, hn, hm, fun h0 => by rw [h3]; exact hs h0, fun j u hu => ?_⟩⟩,
    ⟨World.os_setCells _ _ _ _, tape_setCells g news (off + a) w, World.output_setCells _ _ _ _, Nat.le_of_eq (size_setCells_ g news (off + a) w).symm, fun k hk hne => World.heap_setCells_other w g _ news hk hne⟩⟩
  have key : (w.setCells g (off + a) news).cell? ⟨g, off + j, none⟩ = some u := by
    by_cases h1 : j < a
    · rw [World.cell?_setCells_out g news (off + a) w ⟨g, off + j, none⟩ (fun _ _ => Or.inl (by show off + j < _; omega))]
      rw [List.append_assoc, List.getElem?_append_left (by simp; omega), List.getElem?_take, if_pos h1] at hu
      simpa [World.cell?, hh] using hx j u hu
    · by_cases h2' : j < a + news.length
      · rw [List.getElem?_append_left (by simp; omega), List.getElem?_append_right (by simp; omega)] at hu
        have e1 : (xs.take a).length = a := by simp; omega
        rw [e1] at hu
        have := World.cell?_setCells_in g news (off + a) w hin (j - a) (by omega)
        rw [show off + a + (j - a) = off + j by omega] at this
        rw [List.getElem?_eq_getElem (show j - a < news.length by omega)] at hu
        exact this.trans hu
      · rw [World.cell?_setCells_out g news (off + a) w ⟨g, off + j, none⟩ (fun _ _ => Or.inr (by show _ ≤ off + j; omega))]
        rw [List.getElem?_append_right (by simp; omega), List.getElem?_drop] at hu
        have e1 : (xs.take a ++ news).length = a + news.length := by simp; omega
        rw [e1, show a + news.length + (j - (a + news.length)) = j by omega] at hu
        simpa [World.cell?, hh] using hx j u hu
  simpa [World.cell?, h2] using key
/-- One element is cleared. -/
theorem wpList_clear_m {w : World} {P : Program} {ops : Array Oper} {rest : List Oper} {o : Oper} {a : Act} {Q : Exit → Act → World → Prop} (hgd : o.guard = none) (s : Operand) (t : TypeId)
    (ho : o.op = .call { callee := .builtin .clear, args := #[s], argTypes := #[t] }) (e : TypeId) (z : Value) (zs : List Value) (ht : P.underlying t = some (.slice e)) (hv : ∀ w, (zeroValue e).run P w = .ok z w) (hz : (Builtin.zeroCells z.cells 1).toList = zs) (h1 : ∀ v ∈ zs, v.oneCell' = true) {g of cap : Nat} (hs : a.eval s = .slice (some ⟨g, of, none⟩) 1 cap)
    (hc : ∀ j, j < zs.length → (w.cell? ⟨g, of + j, none⟩).isSome = true) (hf : ∀ j, j < zs.length → w.frozen? ⟨g, of + j, none⟩ = false) (hK : wpList P ops Q rest (a.put o.dst (.tuple #[])) (w.setCells g of zs)) : wpList P ops Q (o :: rest) a w :=
  wpList_plain hgd fun K hK2 => by
    have hst := run_storeCells_cells (P := P) g of zs 0 w (by simpa using hc) (by simpa using hf) h1
    simp only [Nat.add_zero] at hst
    have hrun : (Builtin.clear_ #[t] o.type #[.slice (some ⟨g, of, none⟩) 1 cap]).run P w = .ok (.tuple #[]) (w.setCells g of zs) := by
      simp [Builtin.clear_, run_underlying ht, hv, hz, hst]
    unfold Oper.wp execOp
    simp only [ho, resolve, invoke, builtin, Sem.run_bind, Sem.run_pure, Result.andThen_ok, List.map_toArray, List.map_cons, List.map_nil, hs, hrun]
    exact hK2 _ _ hK
theorem at_set {L : List Res} {i : Nat} {R X : Res} (hi : L[i]? = some R) : (L.set i X)[i]? = some X := List.getElem?_set_self (List.getElem?_eq_some_iff.1 hi).1
end Go.Proofs.YtdjhpdacglojaaaGreat
