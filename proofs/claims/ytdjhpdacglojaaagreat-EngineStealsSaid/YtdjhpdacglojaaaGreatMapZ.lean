/- Words for a map of one's own from integers to any values, and how many entries it has. Plain theorems; nothing of one law. -/
import Derived.Test.YtdjhpdacglojaaaGreatMapI
import Derived.Maps.OwnSet
namespace Go.Proofs.YtdjhpdacglojaaaGreat
open Go.RowKit
set_option linter.unusedVariables false
/-- Block b is a map of just n entries; it reads as M. -/
def MapZ (w : World) (P : Program) (k : TypeId) (b n : Nat) (M : Int → Option Value) : Prop := ∃ D, w.ownsMap P k anyE b n D ∧ ReadsI D M ∧ Maps.size D = n
section
variable {P : Program} {k e t : TypeId} {w w' : World} {b r n : Nat} {M M' : Int → Option Value}
theorem MapZ.mapi (h : MapZ w P k b n M) : MapI w P k b n M := by obtain ⟨D, h, hd, _⟩ := h; exact ⟨D, h, hd⟩
theorem MapZ.lt (h : MapZ w P k b n M) : b < w.heap.size := h.mapi.lt
theorem MapZ.keep (h : MapZ w P k b n M) (hk : w'.heap[b]? = w.heap[b]?) : MapZ w' P k b n M := by
  obtain ⟨D, ⟨es, clock, hb, r⟩, hd⟩ := h; exact ⟨D, ⟨es, clock, hk.trans hb, r⟩, hd⟩
theorem MapZ.new (w : World) (P : Program) (k : TypeId) : MapZ (w.alloc (.map #[] 0)) P k w.heap.size 0 (fun _ => none) :=
  ⟨_, World.ownsMap_made w P k anyE, fun i _ zd => rfl, rfl⟩
theorem MapZ.like (h : MapZ w P k b n M) (hm : ∀ i, wfI i → M' i = M i) : MapZ w P k b n M' := by
  obtain ⟨D, h, hd, hs⟩ := h
  exact ⟨D, h, fun i hi zd => by rw [hd i hi, hm i hi], hs⟩
theorem ownz_exact {D : DataW Value} (h : w.ownsMap P k anyE b n D) : w.ownsMap P k anyE b (Maps.size D) D := by
  obtain ⟨es, clock, hb, F, hs, rfl⟩ := h
  refine ⟨es, clock, hb, F, ?_, rfl⟩
  simp [Maps.size, length_sorted]
theorem readsz_has {D : DataW Value} (hd : ReadsI D M) {i : Int} (hi : wfI i) : Maps.has D (.int .i64 i) = (M i).isSome := by
  cases hM : M i with
  | none => exact Maps.has_false_of_atKey fun z => by rw [hd i hi, hM]
  | some v => exact Maps.has_true_of_atKey (y := .held v) fun z => by rw [hd i hi, hM]
/-- 'len(m)'. -/
theorem MapZ.len (h : MapZ w P k b n M) {t e : TypeId} (ht : P.underlying t = some (.map k e)) (ty : TypeId) : (Builtin.len_ #[t] ty #[.map (some b)]).run P w = .ok (.int .i64 n) w := by
  obtain ⟨D, h, hd, hs⟩ := h
  rw [h.len ht ty, hs]
variable {ops : Array Oper} {rest : List Oper} {o : Oper} {a : Act} {Q : Exit → Act → World → Prop}
/-- 'm[i] = v'. -/
theorem wpList_mapZ_put (hg : o.guard = none) (m x v : Operand) (t : TypeId) (hop : o.op = Op.mapUpdate t m x v) (k e : TypeId) (hk : P.underlying k = some (.int .i64)) (ht : P.underlying t = some (.map k e)) (b n : Nat) (M : Int → Option Value)
    (hm : a.eval m = .map (some b)) (h : MapZ w P k b n M) (hn : n < maxLen) (i : Int) (hi : wfI i) (val : Value) (hx : a.eval x = .int .i64 i) (hv : a.eval v = val)
    (hK : ∀ w', MapZ w' P k b (n + if (M i).isSome = true then 0 else 1) (updI M i (some val)) → w.grownBy w' (some b) → wpList P ops Q rest (a.put o.dst undef) w') : wpList P ops Q (o :: rest) a w := by
  obtain ⟨D, h, hd, hs⟩ := h
  refine wpList_mapUpdate_own w hg m x v t hop k e (Maps.int_keyed hk) ht anyE b _ D hm h hn (.int .i64 i) val (.int .i64 i) hx hv (Maps.keyOf_int_mk hk hi) (.held val) [] rfl ?_
  intro w1 h1 h2
  have hz : Maps.size (D.put (.int .i64 i) (.held val)) = n + if (M i).isSome = true then 0 else 1 := by
    rw [Maps.size_put (h.tidy (Maps.int_keyed hk)), readsz_has hd hi, hs]
    split <;> simp
  exact hK w1 ⟨_, by rw [← hz]; exact ownz_exact h1, hd.put h.isMap i val, hz⟩ h2
theorem del_run (h : MapZ w P k b n M) (hk : P.underlying k = some (.int .i64)) (ht : P.underlying t = some (.map k e)) {i : Int} (hi : wfI i) (ty : TypeId) :
    ∃ w', (Builtin.delete_ #[t, k] ty #[.map (some b), .int .i64 i]).run P w = .ok (.tuple #[]) w' ∧ MapZ w' P k b (n - if (M i).isSome = true then 1 else 0) (updI M i none) ∧ w.grownBy w' (some b) := by
  obtain ⟨D, h, hd, hs⟩ := h
  obtain ⟨w', hrun, r1, r2⟩ := h.drop (Maps.int_keyed hk) ht (Maps.keyOf_int_mk hk hi) ty
  have hz : Maps.size (D.del (.int .i64 i)) = n - if (M i).isSome = true then 1 else 0 := by
    have := Maps.size_del (h.tidy (Maps.int_keyed hk)) (k := .int .i64 i)
    rw [readsz_has hd hi, hs] at this
    split at this <;> rename_i hh <;> simp [hh] <;> omega
  exact ⟨w', hrun, ⟨_, by rw [← hz]; exact ownz_exact r1, hd.del i, hz⟩, r2.grown⟩
/-- 'delete(m, i)', as a step of a region that draws its order. -/
theorem step_mapZ_del {K : Act → World → Prop} {E : Prop} (hg : o.guard = none) (m x : Operand) (t k : TypeId) (hop : o.op = Op.call { callee := Callee.builtin Builtin.delete, args := #[m, x], argTypes := #[t, k] }) (e : TypeId) (hk : P.underlying k = some (.int .i64)) (ht : P.underlying t = some (.map k e)) (b n : Nat) (M : Int → Option Value)
    (hm : a.eval m = .map (some b)) (h : MapZ w P k b n M) (i : Int) (hi : wfI i) (hx : a.eval x = .int .i64 i)
    (hK : ∀ w', MapZ w' P k b (n - if (M i).isSome = true then 1 else 0) (updI M i none) → w.grownBy w' (some b) → K (a.put o.dst (.tuple #[])) w') :
    if Region.wanted o (yielded ops a.tmps) = true then Oper.wp P o a w K Q else E := by
  have hw : Region.wanted o (yielded ops a.tmps) = true := by simp [Region.wanted, hg]
  rw [if_pos hw]
  obtain ⟨w', hrun, r1, r2⟩ := del_run h hk ht hi o.type
  unfold Oper.wp
  simp [execOp, hop, resolve, invoke, builtin, hm, hx, hrun, Result.andThen]
  exact hK w' r1 r2
end
/-- A map of one's own. -/
def MapZR (P : Program) (k : TypeId) (b n : Nat) (M : Int → Option Value) : Res := fun w S => MapZ w P k b n M ∧ ∀ x, S x ↔ x = b
theorem MapZR.ok (P : Program) (k : TypeId) (b n : Nat) (M : Int → Option Value) : Ok (MapZR P k b n M) :=
  ⟨fun ⟨h, hs⟩ x hx => by rw [(hs x).1 hx]; exact h.lt, fun ⟨h, hs⟩ hk => ⟨h.keep (hk b ((hs b).2 rfl)), hs⟩⟩
section
variable {w0 w w' : World} {S0 : Nat → Prop} {L : List Res} {P : Program} {k : TypeId} {b n n' : Nat} {M M' : Int → Option Value}
theorem St.mapz (h : St w0 S0 w L) (i : Nat) (hi : L[i]? = some (MapZR P k b n M)) : MapZ w P k b n M := by obtain ⟨S, hb, _⟩ := h.get i hi; exact hb
theorem St.mapz_new (h : St w0 S0 w L) (P : Program) (k : TypeId) : St w0 S0 (w.alloc (.map #[] 0)) (L ++ [MapZR P k w.heap.size 0 (fun _ => none)]) :=
  h.more ((Below.refl _ _).alloc (Nat.le_refl _) _) (Star.one (MapZR.ok _ _ _ _ _) ⟨MapZ.new w P k, fun b => Iff.rfl⟩) (fun b hb => by have hb : b = w.heap.size := hb; omega)
theorem St.mapz_turn (h : St w0 S0 w L) (i : Nat) (hi : L[i]? = some (MapZR P k b n M)) (hm : MapZ w' P k b n' M') (hg : w.grownBy w' (some b)) : St w0 S0 w' (L.set i (MapZR P k b n' M')) :=
  h.turn hi (MapZR.ok _ _ _ _ _) fun T ⟨_, hT⟩ => ⟨T, ⟨hm, hT⟩, ⟨hg.os, hg.tape, hg.output, hg.size, fun j hj hn => hg.block j hj fun e => hn ((hT j).2 (by injection e)), fun b h => Or.inl h⟩⟩
end
end Go.Proofs.YtdjhpdacglojaaaGreat
