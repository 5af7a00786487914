/- Words for a map of one's own, from integers to any values; for going over it. Plain theorems; nothing of one law. -/
import Derived.Test.YtdjhpdacglojaaaGreatMore
import Derived.Maps.RangeWalk
import Derived.Maps.Views
namespace Go.Proofs.YtdjhpdacglojaaaGreat
open Go.RowKit
open Go.Maps (Keyed)
set_option linter.unusedVariables false
/-- Any element reads as itself. -/
def anyE (v : Value) : Option (DataW Value × List MemPlace) := some (.held v, [])
def wfI (i : Int) : Prop := (Lit.int .i64 i).wf = true
def ReadsI (D : DataW Value) (M : Int → Option Value) : Prop := ∀ i, wfI i → ∀ zd, D.atKey (.int .i64 i) zd = (match M i with | none => zd | some v => .held v)
/-- Block b is a map of at most n entries; it reads as M. -/
def MapI (w : World) (P : Program) (k : TypeId) (b n : Nat) (M : Int → Option Value) : Prop := ∃ D, w.ownsMap P k anyE b n D ∧ ReadsI D M
/-- Going over it: who is left. -/
def IterI (w : World) (P : Program) (k : TypeId) (b r n : Nat) (M : Int → Option Value) (left : Int → Bool) (cnt : Nat) : Prop :=
  ∃ D leftL, w.ranges P k anyE b r n D leftL cnt ∧ ReadsI D M ∧ ∀ i, wfI i → leftL (.int .i64 i) = left i
theorem key_int (i : Int) : WideAt.IsKeyLit (.int .i64 i) := trivial
theorem key_ne {i j : Int} (h : i ≠ j) : (Lit.int .i64 i) ≠ .int .i64 j := fun e => h (by injection e)
theorem same_int (i j : Int) : (Lit.int .i64 i).sameKey (.int .i64 j) = (i == j) := by
  by_cases h : i = j
  · subst h; rw [WideAt.sameKey_self (key_int i)]; simp
  · rw [Maps.sameKey_ne (key_ne h)]; simp [h]
section
variable {P : Program} {k e t : TypeId} {w w' : World} {b r n : Nat} {M : Int → Option Value}
theorem MapI.lt (h : MapI w P k b n M) : b < w.heap.size := by obtain ⟨D, h, _⟩ := h; exact h.lt
theorem MapI.keep (h : MapI w P k b n M) (hk : w'.heap[b]? = w.heap[b]?) : MapI w' P k b n M := by
  obtain ⟨D, ⟨es, clock, hb, r⟩, hd⟩ := h; exact ⟨D, ⟨es, clock, hk.trans hb, r⟩, hd⟩
theorem MapI.mono (h : MapI w P k b n M) {n' : Nat} (hn : n ≤ n') : MapI w P k b n' M := by obtain ⟨D, h, hd⟩ := h; exact ⟨D, h.mono hn, hd⟩
theorem MapI.new (w : World) (P : Program) (k : TypeId) : MapI (w.alloc (.map #[] 0)) P k w.heap.size 0 (fun _ => none) :=
  ⟨_, World.ownsMap_made w P k anyE, fun i _ zd => rfl⟩
theorem MapI.like (h : MapI w P k b n M) {M' : Int → Option Value} (hm : ∀ i, wfI i → M' i = M i) : MapI w P k b n M' := by
  obtain ⟨D, h, hd⟩ := h
  exact ⟨D, h, fun i hi zd => by rw [hd i hi, hm i hi]⟩
/-- 'v, ok := m[i]'. -/
theorem MapI.look (h : MapI w P k b n M) (hk : P.underlying k = some (.int .i64)) (ht : P.underlying t = some (.map k e)) {z : Value} (hz : (zeroValue e).run P w = .ok z w) {i : Int} (hi : wfI i) :
    (Instr.lookup t (.map (some b)) (.int .i64 i) true).run P w = .ok (.tuple #[(M i).getD z, .bool (M i).isSome]) w := by
  obtain ⟨D, ⟨es, clock, hb, F, hs, rfl⟩, hat⟩ := h
  have ha := hat i hi
  rcases Maps.fit_look true (Maps.int_keyed hk) ht hz hb F (Maps.keyOf_int_mk hk hi) with ⟨hrun, _, hn⟩ | ⟨e0, y, _, _, hrun, hR, hn, _⟩
  · cases hM : M i with
    | none => simpa using hrun
    | some v => have := (hn .nil).symm.trans (ha .nil); rw [hM] at this; cases this
  · obtain rfl : y = (.held e0.val, []) := by unfold anyE at hR; injection hR with hR; exact hR.symm
    cases hM : M i with
    | none => have := (hn .nil).symm.trans (ha .nil); rw [hM] at this; cases this
    | some v =>
      have := (hn .nil).symm.trans (ha .nil); rw [hM] at this
      injection this with this
      subst this
      simpa using hrun
/-- 'm[i]'. -/
theorem MapI.look1 (h : MapI w P k b n M) (hk : P.underlying k = some (.int .i64)) (ht : P.underlying t = some (.map k e)) {z : Value} (hz : (zeroValue e).run P w = .ok z w) {i : Int} (hi : wfI i) :
    (Instr.lookup t (.map (some b)) (.int .i64 i) false).run P w = .ok ((M i).getD z) w := by
  obtain ⟨D, ⟨es, clock, hb, F, hs, rfl⟩, hat⟩ := h
  have ha := hat i hi
  rcases Maps.fit_look false (Maps.int_keyed hk) ht hz hb F (Maps.keyOf_int_mk hk hi) with ⟨hrun, _, hn⟩ | ⟨e0, y, _, _, hrun, hR, hn, _⟩
  · cases hM : M i with
    | none => simpa using hrun
    | some v => have := (hn .nil).symm.trans (ha .nil); rw [hM] at this; cases this
  · obtain rfl : y = (.held e0.val, []) := by unfold anyE at hR; injection hR with hR; exact hR.symm
    cases hM : M i with
    | none => have := (hn .nil).symm.trans (ha .nil); rw [hM] at this; cases this
    | some v =>
      have := (hn .nil).symm.trans (ha .nil); rw [hM] at this
      injection this with this
      subst this
      simpa using hrun
def updI (M : Int → Option Value) (i : Int) (v : Option Value) : Int → Option Value := fun j => if j = i then v else M j
theorem ReadsI.put {D : DataW Value} (h : ReadsI D M) (hD : Maps.IsMap D) (i : Int) (v : Value) : ReadsI (D.put (.int .i64 i) (.held v)) (updI M i (some v)) := fun j hj zd => by
  unfold updI
  by_cases e : j = i
  · subst e; rw [if_pos rfl, Maps.atKey_put_same hD (key_int j)]
  · rw [if_neg e, Maps.atKey_put_other (key_ne e), h j hj]
theorem ReadsI.del {D : DataW Value} (h : ReadsI D M) (i : Int) : ReadsI (D.del (.int .i64 i)) (updI M i none) := fun j hj zd => by
  unfold updI
  by_cases e : j = i
  · subst e; rw [if_pos rfl, Maps.atKey_del_same]
  · rw [if_neg e, Maps.atKey_del_other (key_ne e), h j hj]
variable {ops : Array Oper} {rest : List Oper} {o : Oper} {a : Act} {Q : Exit → Act → World → Prop}
/-- 'm[i] = v'. -/
theorem wpList_mapI_put (hg : o.guard = none) (m x v : Operand) (t : TypeId) (hop : o.op = Op.mapUpdate t m x v) (k e : TypeId) (hk : P.underlying k = some (.int .i64)) (ht : P.underlying t = some (.map k e)) (b n : Nat) (M : Int → Option Value)
    (hm : a.eval m = .map (some b)) (h : MapI w P k b n M) (hn : n < maxLen) (i : Int) (hi : wfI i) (val : Value) (hx : a.eval x = .int .i64 i) (hv : a.eval v = val)
    (hK : ∀ w', MapI w' P k b (n + 1) (updI M i (some val)) → w.grownBy w' (some b) → wpList P ops Q rest (a.put o.dst undef) w') : wpList P ops Q (o :: rest) a w := by
  obtain ⟨D, h, hd⟩ := h
  refine wpList_mapUpdate_own w hg m x v t hop k e (Maps.int_keyed hk) ht anyE b n D hm h hn (.int .i64 i) val (.int .i64 i) hx hv (Maps.keyOf_int_mk hk hi) (.held val) [] rfl ?_
  intro w1 h1 h2
  exact hK w1 ⟨_, h1, hd.put h.isMap i val⟩ h2
/-- 'delete(m, i)'. -/
theorem wpList_mapI_del (hg : o.guard = none) (m x : Operand) (t k : TypeId) (hop : o.op = Op.call { callee := Callee.builtin Builtin.delete, args := #[m, x], argTypes := #[t, k] }) (e : TypeId) (hk : P.underlying k = some (.int .i64)) (ht : P.underlying t = some (.map k e)) (b n : Nat) (M : Int → Option Value)
    (hm : a.eval m = .map (some b)) (h : MapI w P k b n M) (i : Int) (hi : wfI i) (hx : a.eval x = .int .i64 i)
    (hK : ∀ w', MapI w' P k b n (updI M i none) → w.grownBy w' (some b) → wpList P ops Q rest (a.put o.dst (.tuple #[])) w') : wpList P ops Q (o :: rest) a w := by
  obtain ⟨D, h, hd⟩ := h
  refine wpList_delete_own w hg m x t k hop e (Maps.int_keyed hk) ht anyE b n D hm h (.int .i64 i) (.int .i64 i) hx (Maps.keyOf_int_mk hk hi) ?_
  intro w1 h1 h2
  exact hK w1 ⟨_, h1, hd.del i⟩ h2.grown
/-- 'range m'. -/
theorem wpList_mapI_range (hg : o.guard = none) (m : Operand) (t : TypeId) (hop : o.op = Op.range t m) (k e : TypeId) (hk : P.underlying k = some (.int .i64)) (ht : P.underlying t = some (.map k e)) (b n : Nat) (M : Int → Option Value)
    (hm : a.eval m = .map (some b)) (h : MapI w P k b n M)
    (hK : ∀ w' cnt, IterI w' P k b w.heap.size n M (fun i => (M i).isSome) cnt → w.grownBy w' none → w'.heap.size = w.heap.size + 1 → wpList P ops Q rest (a.put o.dst (.pointer (some ⟨w.heap.size, 0, none⟩))) w') : wpList P ops Q (o :: rest) a w := by
  obtain ⟨D, h, hd⟩ := h
  refine wpList_range_own w hg m t hop k e (Maps.int_keyed hk) ht anyE b n D hm h ?_
  intro w1 h1 h2 h3
  refine hK w1 _ ⟨D, _, h1, hd, fun i hi => ?_⟩ h2 h3
  show _ = (M i).isSome
  cases hM : M i with
  | none => exact Maps.has_false_of_atKey fun z => by rw [hd i hi, hM]
  | some v => exact Maps.has_true_of_atKey (y := .held v) fun z => by rw [hd i hi, hM]
theorem IterI.map {left : Int → Bool} {cnt : Nat} (h : IterI w P k b r n M left cnt) : MapI w P k b n M := by obtain ⟨D, l, h, hd, _⟩ := h; exact ⟨D, h.owns, hd⟩
theorem IterI.left_eq {left : Int → Bool} {cnt : Nat} (h : IterI w P k b r n M left cnt) : w.rangeLeft b r = cnt := by obtain ⟨D, l, h, _⟩ := h; exact h.left_eq
theorem IterI.lt {left : Int → Bool} {cnt : Nat} (h : IterI w P k b r n M left cnt) : r < w.heap.size := by obtain ⟨D, l, h, _⟩ := h; exact h.lt
theorem IterI.keep {left : Int → Bool} {cnt : Nat} (h : IterI w P k b r n M left cnt) (hb : w'.heap[b]? = w.heap[b]?) (hr : w'.heap[r]? = w.heap[r]?) : IterI w' P k b r n M left cnt := by
  obtain ⟨D, l, ⟨es, clock, since, seen, c0, h1, h2, h3, h4, h5, h6⟩, hd⟩ := h
  exact ⟨D, l, ⟨es, clock, since, seen, c0, hb.trans h1, h2, h3, h4, hr.trans h5, h6⟩, hd⟩
/-- The next one. -/
theorem wpList_mapI_next (hg : o.guard = none) (it : Operand) (hop : o.op = Op.next it false) (k : TypeId) (hk : P.underlying k = some (.int .i64)) (b r n : Nat) (M : Int → Option Value) (left : Int → Bool) (cnt : Nat)
    (hit : a.eval it = .pointer (some ⟨r, 0, none⟩)) (h : IterI w P k b r n M left cnt)
    (hDone : cnt = 0 → (∀ i, wfI i → left i = false) → wpList P ops Q rest (a.put o.dst (.tuple #[.bool false])) w)
    (hMore : ∀ (i : Int) (v : Value) (w' : World) (cnt' : Nat), wfI i → left i = true → M i = some v → IterI w' P k b r n M (fun j => left j && !(j == i)) cnt' → cnt' < cnt → w.grownBy w' (some r) → w'.heap.size = w.heap.size →
      (Instr.entry (.pointer (some ⟨r, 0, none⟩))).run P w' = .ok (.tuple #[.int .i64 i, v]) w' → wpList P ops Q rest (a.put o.dst (.tuple #[.bool true, .int .i64 i, v])) w') : wpList P ops Q (o :: rest) a w := by
  obtain ⟨D, l, h, hd, hl⟩ := h
  refine wpList_next_ranges w hg it hop k (Maps.int_keyed hk) anyE (Value.int .i64) id (fun key kl hkey => by obtain ⟨x, rfl, _⟩ := Maps.keyOf_int_inv hk hkey; exact ⟨x, rfl⟩) (fun v y _ => ⟨v, rfl⟩) b r n D l cnt hit h ?_ ?_
  · exact fun h0 h1 => hDone h0 fun i hi => by rw [← hl i hi]; exact h1 _
  · intro i v kl y w1 cnt1 hkey hlk hv hat hrg hlt hgr hsz hen
    obtain ⟨x, hx, rfl, hwf⟩ := Maps.keyOf_int_inv hk hkey
    injection hx with _ hx
    subst hx
    obtain rfl : y = (.held v, []) := by unfold anyE at hv; injection hv with hv; exact hv.symm
    refine hMore i v w1 cnt1 hwf (by rw [← hl i hwf]; exact hlk) ?_ ⟨D, _, hrg, hd, fun j hj => by rw [hl j hj, same_int]⟩ hlt hgr hsz hen
    have h1 := (hd i hwf .nil).symm.trans (hat .nil)
    cases hM : M i with
    | none => rw [hM] at h1; cases h1
    | some u => rw [hM] at h1; injection h1 with h1; rw [h1]
end
/-- A map of one's own. -/
def MapR (P : Program) (k : TypeId) (b n : Nat) (M : Int → Option Value) : Res := fun w S => MapI w P k b n M ∧ ∀ x, S x ↔ x = b
theorem MapR.ok (P : Program) (k : TypeId) (b n : Nat) (M : Int → Option Value) : Ok (MapR P k b n M) :=
  ⟨fun ⟨h, hs⟩ x hx => by rw [(hs x).1 hx]; exact h.lt, fun ⟨h, hs⟩ hk => ⟨h.keep (hk b ((hs b).2 rfl)), hs⟩⟩
section
variable {w0 w w' : World} {S0 : Nat → Prop} {L : List Res} {P : Program} {k : TypeId} {b n n' : Nat} {M M' : Int → Option Value}
theorem St.mapi (h : St w0 S0 w L) (i : Nat) (hi : L[i]? = some (MapR P k b n M)) : MapI w P k b n M := by obtain ⟨S, hb, _⟩ := h.get i hi; exact hb
theorem St.map_new (h : St w0 S0 w L) (P : Program) (k : TypeId) : St w0 S0 (w.alloc (.map #[] 0)) (L ++ [MapR P k w.heap.size 0 (fun _ => none)]) :=
  h.more ((Below.refl _ _).alloc (Nat.le_refl _) _) (Star.one (MapR.ok _ _ _ _ _) ⟨MapI.new w P k, fun b => Iff.rfl⟩) (fun b hb => by have hb : b = w.heap.size := hb; omega)
theorem St.map_turn (h : St w0 S0 w L) (i : Nat) (hi : L[i]? = some (MapR P k b n M)) (hm : MapI w' P k b n' M') (hg : w.grownBy w' (some b)) : St w0 S0 w' (L.set i (MapR P k b n' M')) :=
  h.turn hi (MapR.ok _ _ _ _ _) fun T ⟨_, hT⟩ => ⟨T, ⟨hm, hT⟩, ⟨hg.os, hg.tape, hg.output, hg.size, fun j hj hn => hg.block j hj fun e => hn ((hT j).2 (by injection e)), fun b h => Or.inl h⟩⟩
end
/-- Nothing there. -/
def EmpR : Res := fun _ S => ∀ b, ¬ S b
theorem EmpR.ok : Ok EmpR := ⟨fun h b hb => absurd hb (h b), fun h _ => h⟩
end Go.Proofs.YtdjhpdacglojaaaGreat
