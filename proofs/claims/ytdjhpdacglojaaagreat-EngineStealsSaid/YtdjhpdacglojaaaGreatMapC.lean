/- Words for a map of one's own whose keys are small numbers, and how many it has. Plain theorems; nothing of one law. -/
import Derived.Test.YtdjhpdacglojaaaGreatMapI
import Derived.Maps.OwnSet
namespace Go.Proofs.YtdjhpdacglojaaaGreat
open Go.RowKit
set_option linter.unusedVariables false
/-- How many of the first n numbers. -/
def cf (f : Nat → Bool) (n : Nat) : Nat := ((List.range n).filter f).length
theorem cf_succ (f : Nat → Bool) (n : Nat) : cf f (n + 1) = cf f n + (if f n = true then 1 else 0) := by
  unfold cf
  rw [List.range_succ, List.filter_append, List.length_append]
  cases h : f n <;> simp [List.filter, h]
theorem cf_le (f : Nat → Bool) (n : Nat) : cf f n ≤ n := by
  unfold cf; exact Nat.le_trans (List.length_filter_le _ _) (by simp)
theorem cf_like {f g : Nat → Bool} : ∀ {n : Nat}, (∀ j, j < n → f j = g j) → cf f n = cf g n
  | 0, h => rfl
  | n + 1, h => by rw [cf_succ, cf_succ, cf_like (n := n) fun j hj => h j (by omega), h n (by omega)]
theorem cf_upd (f : Nat → Bool) (k : Nat) (b : Bool) : ∀ n, (k < n → cf (fun j => if j = k then b else f j) n + (if f k = true then 1 else 0) = cf f n + (if b = true then 1 else 0)) ∧ (n ≤ k → cf (fun j => if j = k then b else f j) n = cf f n)
  | 0 => ⟨fun h => absurd h (Nat.not_lt_zero k), fun _ => rfl⟩
  | n + 1 => by
    obtain ⟨h1, h2⟩ := cf_upd f k b n
    rw [cf_succ, cf_succ]
    by_cases e : n = k
    · subst e
      have := h2 (Nat.le_refl _)
      rw [if_pos rfl]
      exact ⟨fun _ => by omega, fun h => by omega⟩
    · rw [if_neg e]
      exact ⟨fun h => by have := h1 (by omega); omega, fun h => by have := h2 (by omega); omega⟩
theorem cf_zero (f : Nat → Bool) : ∀ n, cf f n = 0 → ∀ j, j < n → f j = false
  | 0, _, j, hj => absurd hj (Nat.not_lt_zero j)
  | n + 1, h, j, hj => by
    rw [cf_succ] at h
    by_cases e : j = n
    · subst e
      cases hf : f j
      · rfl
      · rw [hf] at h; simp at h
    · exact cf_zero f n (by omega) j (by omega)
theorem cf_none (n : Nat) : cf (fun _ => false) n = 0 := by unfold cf; simp
def cnt {α : Type} (M : Int → Option α) : Nat := cf (fun i => (M (i : Int)).isSome) 1000
def Dom {α : Type} (M : Int → Option α) : Prop := ∀ i, (M i).isSome = true → 0 ≤ i ∧ i < 1000
theorem cnt_le {α : Type} (M : Int → Option α) : cnt M ≤ 1000 := cf_le _ _
theorem cnt_none {α : Type} : cnt (fun _ => (none : Option α)) = 0 := cf_none _
theorem cnt_zero {α : Type} {M : Int → Option α} (hd : Dom M) (h : cnt M = 0) (i : Int) : M i = none := by
  cases hM : M i with
  | none => rfl
  | some v =>
    obtain ⟨h0, h1⟩ := hd i (by rw [hM]; rfl)
    have : (M ((i.toNat : Nat) : Int)).isSome = false := cf_zero (fun i => (M (i : Int)).isSome) _ h i.toNat (by omega)
    rw [Int.toNat_of_nonneg h0, hM] at this
    cases this
theorem cnt_pos {α : Type} {M : Int → Option α} (h : ∀ i, M i = none) : cnt M = 0 := by
  unfold cnt
  rw [cf_like (g := fun _ => false) fun j hj => by rw [h]; rfl]
  exact cf_none _
theorem cnt_upd {α : Type} {M M' : Int → Option α} {i : Int} (h0 : 0 ≤ i) (h1 : i < 1000) (h : ∀ j, j ≠ i → (M' j).isSome = (M j).isSome) :
    cnt M' + (if (M i).isSome = true then 1 else 0) = cnt M + (if (M' i).isSome = true then 1 else 0) := by
  have : cf (fun j => if j = i.toNat then (M' i).isSome else (M (j : Int)).isSome) 1000 + (if (M ((i.toNat : Nat) : Int)).isSome = true then 1 else 0) = cf (fun i => (M (i : Int)).isSome) 1000 + (if (M' i).isSome = true then 1 else 0) := (cf_upd (fun i => (M (i : Int)).isSome) i.toNat (M' i).isSome 1000).1 (by omega)
  rw [Int.toNat_of_nonneg h0] at this
  unfold cnt
  rw [cf_like (f := fun i => (M' (i : Int)).isSome) (g := fun j => if j = i.toNat then (M' i).isSome else (M (j : Int)).isSome) fun j hj => ?_]
  · exact this
  · by_cases e : j = i.toNat
    · rw [if_pos e, e, Int.toNat_of_nonneg h0]
    · rw [if_neg e]; exact h _ (by omega)
theorem cnt_like {α β : Type} {M : Int → Option α} {M' : Int → Option β} (h : ∀ j, (M' j).isSome = (M j).isSome) : cnt M' = cnt M := cf_like fun j hj => h j
theorem dom_wf {i : Int} (h0 : 0 ≤ i) (h1 : i < 1000) : wfI i := by
  unfold wfI Lit.wf
  simp [IntKind.min, IntKind.max, IntKind.signed, IntKind.bits]
  omega
section
variable {P : Program} {k e t : TypeId} {w w' : World} {b r n : Nat} {M M' : Int → Option Value}
/-- Block b is a map whose keys are small; it reads as M and has no other entry. -/
def MapN (w : World) (P : Program) (k : TypeId) (b : Nat) (M : Int → Option Value) : Prop := (∃ D, w.ownsMap P k anyE b (cnt M) D ∧ ReadsI D M ∧ Maps.size D = cnt M) ∧ Dom M
theorem MapN.mapi (h : MapN w P k b M) : MapI w P k b (cnt M) M := by obtain ⟨⟨D, h, hd, _⟩, _⟩ := h; exact ⟨D, h, hd⟩
theorem MapN.lt (h : MapN w P k b M) : b < w.heap.size := h.mapi.lt
theorem MapN.keep (h : MapN w P k b M) (hk : w'.heap[b]? = w.heap[b]?) : MapN w' P k b M := by
  obtain ⟨⟨D, ⟨es, clock, hb, r⟩, hd⟩, hm⟩ := h; exact ⟨⟨D, ⟨es, clock, hk.trans hb, r⟩, hd⟩, hm⟩
theorem MapN.new (w : World) (P : Program) (k : TypeId) : MapN (w.alloc (.map #[] 0)) P k w.heap.size (fun _ => none) :=
  ⟨⟨_, by rw [cnt_none]; exact World.ownsMap_made w P k anyE, fun i _ zd => rfl, by rw [cnt_none]; rfl⟩, fun i h => by cases h⟩
theorem MapN.like (h : MapN w P k b M) (hm : ∀ i, M' i = M i) : MapN w P k b M' := by
  obtain rfl : M' = M := funext hm
  exact h
theorem own_exact {D : DataW Value} (h : w.ownsMap P k anyE b n D) : w.ownsMap P k anyE b (Maps.size D) D := by
  obtain ⟨es, clock, hb, F, hs, rfl⟩ := h
  refine ⟨es, clock, hb, F, ?_, rfl⟩
  simp [Maps.size, length_sorted]
theorem reads_has {D : DataW Value} (hd : ReadsI D M) {i : Int} (hi : wfI i) : Maps.has D (.int .i64 i) = (M i).isSome := by
  cases hM : M i with
  | none => exact Maps.has_false_of_atKey fun z => by rw [hd i hi, hM]
  | some v => exact Maps.has_true_of_atKey (y := .held v) fun z => by rw [hd i hi, hM]
variable {ops : Array Oper} {rest : List Oper} {o : Oper} {a : Act} {Q : Exit → Act → World → Prop}
/-- 'm[i] = v'. -/
theorem wpList_mapN_put (hg : o.guard = none) (m x v : Operand) (t : TypeId) (hop : o.op = Op.mapUpdate t m x v) (k e : TypeId) (hk : P.underlying k = some (.int .i64)) (ht : P.underlying t = some (.map k e)) (b : Nat) (M : Int → Option Value)
    (hm : a.eval m = .map (some b)) (h : MapN w P k b M) (i : Int) (i0 : 0 ≤ i) (i1 : i < 1000) (val : Value) (hx : a.eval x = .int .i64 i) (hv : a.eval v = val)
    (hK : ∀ w', MapN w' P k b (updI M i (some val)) → w.grownBy w' (some b) → wpList P ops Q rest (a.put o.dst undef) w') : wpList P ops Q (o :: rest) a w := by
  obtain ⟨⟨D, h, hd, hs⟩, hm2⟩ := h
  have hi := dom_wf i0 i1
  refine wpList_mapUpdate_own w hg m x v t hop k e (Maps.int_keyed hk) ht anyE b _ D hm h (by have := cnt_le M; unfold maxLen; omega) (.int .i64 i) val (.int .i64 i) hx hv (Maps.keyOf_int_mk hk hi) (.held val) [] rfl ?_
  intro w1 h1 h2
  have hc := cnt_upd (M := M) (M' := updI M i (some val)) i0 i1 (fun j hj => by unfold updI; rw [if_neg hj])
  have he : (updI M i (some val) i).isSome = true := by unfold updI; rw [if_pos rfl]; rfl
  rw [he, if_pos rfl] at hc
  have hz : Maps.size (D.put (.int .i64 i) (.held val)) = cnt (updI M i (some val)) := by
    rw [Maps.size_put (h.tidy (Maps.int_keyed hk)), reads_has hd hi, hs]
    split at hc <;> rename_i hh <;> simp [hh] <;> omega
  refine hK w1 ⟨⟨_, ?_, hd.put h.isMap i val, hz⟩, fun j hj => ?_⟩ h2
  · rw [← hz]; exact own_exact h1
  · unfold updI at hj
    by_cases ej : j = i
    · rw [ej]; exact ⟨i0, i1⟩
    · rw [if_neg ej] at hj; exact hm2 j hj
/-- 'delete(m, i)'. -/
theorem wpList_mapN_del (hg : o.guard = none) (m x : Operand) (t k : TypeId) (hop : o.op = Op.call { callee := Callee.builtin Builtin.delete, args := #[m, x], argTypes := #[t, k] }) (e : TypeId) (hk : P.underlying k = some (.int .i64)) (ht : P.underlying t = some (.map k e)) (b : Nat) (M : Int → Option Value)
    (hm : a.eval m = .map (some b)) (h : MapN w P k b M) (i : Int) (i0 : 0 ≤ i) (i1 : i < 1000) (hx : a.eval x = .int .i64 i)
    (hK : ∀ w', MapN w' P k b (updI M i none) → w.grownBy w' (some b) → wpList P ops Q rest (a.put o.dst (.tuple #[])) w') : wpList P ops Q (o :: rest) a w := by
  obtain ⟨⟨D, h, hd, hs⟩, hm2⟩ := h
  have hi := dom_wf i0 i1
  refine wpList_delete_own w hg m x t k hop e (Maps.int_keyed hk) ht anyE b _ D hm h (.int .i64 i) (.int .i64 i) hx (Maps.keyOf_int_mk hk hi) ?_
  intro w1 h1 h2
  have hc := cnt_upd (M := M) (M' := updI M i none) i0 i1 (fun j hj => by unfold updI; rw [if_neg hj])
  have he : (updI M i none i).isSome = false := by unfold updI; rw [if_pos rfl]; rfl
  rw [he, if_neg (by decide : ¬ (false = true))] at hc
  have hz : Maps.size (D.del (.int .i64 i)) = cnt (updI M i none) := by
    have := Maps.size_del (h.tidy (Maps.int_keyed hk)) (k := .int .i64 i)
    rw [reads_has hd hi, hs] at this
    omega
  refine hK w1 ⟨⟨_, ?_, hd.del i, hz⟩, fun j hj => ?_⟩ h2.grown
  · rw [← hz]; exact own_exact h1
  · unfold updI at hj
    by_cases ej : j = i
    · rw [if_pos ej] at hj; cases hj
    · rw [if_neg ej] at hj; exact hm2 j hj
/-- 'len(m)'. -/
theorem MapN.len (h : MapN w P k b M) {t e : TypeId} (ht : P.underlying t = some (.map k e)) (ty : TypeId) : (Builtin.len_ #[t] ty #[.map (some b)]).run P w = .ok (.int .i64 (cnt M)) w := by
  obtain ⟨⟨D, h, hd, hs⟩, hm2⟩ := h
  rw [h.len ht ty, hs]
end
/-- A map of one's own, or none. -/
def OptM (P : Program) (k : TypeId) (o : Option Nat) (M : Int → Option Value) : Res := fun w S => match o with
  | none => (∀ i, M i = none) ∧ ∀ x, ¬ S x
  | some b => MapN w P k b M ∧ ∀ x, S x ↔ x = b
theorem OptM.ok (P : Program) (k : TypeId) (o : Option Nat) (M : Int → Option Value) : Ok (OptM P k o M) := by
  cases o with
  | none => exact ⟨fun ⟨_, h⟩ b hb => absurd hb (h b), fun h _ => h⟩
  | some b => exact ⟨fun ⟨h, hs⟩ x hx => by rw [(hs x).1 hx]; exact h.lt, fun ⟨h, hs⟩ hk => ⟨h.keep (hk b ((hs b).2 rfl)), hs⟩⟩
section
variable {w0 w w' : World} {S0 : Nat → Prop} {L : List Res} {P : Program} {k : TypeId} {b : Nat} {M M' : Int → Option Value}
theorem St.optm (h : St w0 S0 w L) (i : Nat) (hi : L[i]? = some (OptM P k (some b) M)) : MapN w P k b M := by obtain ⟨S, hb, _⟩ := h.get i hi; exact hb
theorem St.optm_none (h : St w0 S0 w L) (i : Nat) (hi : L[i]? = some (OptM P k none M)) : ∀ i, M i = none := by obtain ⟨S, hb, _⟩ := h.get i hi; exact hb
theorem St.optm_new (h : St w0 S0 w L) (P : Program) (k : TypeId) : St w0 S0 (w.alloc (.map #[] 0)) (L ++ [OptM P k (some w.heap.size) (fun _ => none)]) :=
  h.more ((Below.refl _ _).alloc (Nat.le_refl _) _) (Star.one (OptM.ok _ _ _ _) ⟨MapN.new w P k, fun b => Iff.rfl⟩) (fun b hb => by have hb : b = w.heap.size := hb; omega)
theorem St.optm_turn (h : St w0 S0 w L) (i : Nat) (hi : L[i]? = some (OptM P k (some b) M)) (hm : MapN w' P k b M') (hg : w.grownBy w' (some b)) : St w0 S0 w' (L.set i (OptM P k (some b) M')) :=
  h.turn hi (OptM.ok _ _ _ _) fun T ⟨_, hT⟩ => ⟨T, ⟨hm, hT⟩, ⟨hg.os, hg.tape, hg.output, hg.size, fun j hj hn => hg.block j hj fun e => hn ((hT j).2 (by injection e)), fun b h => Or.inl h⟩⟩
/-- A map is dropped. -/
theorem St.optm_drop (h : St w0 S0 w L) (i : Nat) {o : Option Nat} (hi : L[i]? = some (OptM P k o M)) (hm : ∀ i, M' i = none) : St w0 S0 w (L.set i (OptM P k none M')) :=
  h.turn hi (OptM.ok _ _ _ _) fun T _ => ⟨fun _ => False, ⟨hm, fun x h => h⟩, ⟨rfl, rfl, rfl, Nat.le_refl _, fun _ _ _ => rfl, fun b h => h.elim⟩⟩
end
end Go.Proofs.YtdjhpdacglojaaaGreat
