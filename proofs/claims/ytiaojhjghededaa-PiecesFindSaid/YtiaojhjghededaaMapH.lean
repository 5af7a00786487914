/- Words for a map of one's own, from handles (a number and a generation) to any values. Plain theorems; nothing of one law. -/
import Derived.Test.YtiaojhjghededaaMore
import Derived.Maps.RangeWalk
import Derived.Maps.Views
import Derived.DeepKeys4
namespace Go.Proofs.Ytiaojhjghededaa
open Go.RowKit
open Go.Maps (Keyed)
set_option linter.unusedVariables false
/-- A handle as a value, as a key. -/
def hv (x : Int × Int) : Value := .agg #[.int .i64 x.1, .int .u64 x.2]
def hl (x : Int × Int) : Lit := .string (keyBytes [.int .i64 x.1, .int .u64 x.2])
def wfH (x : Int × Int) : Prop := (Lit.int .i64 x.1).wf = true ∧ (Lit.int .u64 x.2).wf = true
/-- Handles are keys of this type. -/
structure KH (P : Program) (k : TypeId) : Prop where
  law : Keyed P k
  key : ∀ x, wfH x → keyOf P k (hv x) = some (hl x)
def anyH (v : Value) : Option (DataW Value × List MemPlace) := some (.held v, [])
def ReadsH (D : DataW Value) (M : Int × Int → Option Value) : Prop := ∀ x, wfH x → ∀ zd, D.atKey (hl x) zd = (match M x with | none => zd | some v => .held v)
def MapH (w : World) (P : Program) (k : TypeId) (b n : Nat) (M : Int × Int → Option Value) : Prop := ∃ D, w.ownsMap P k anyH b n D ∧ ReadsH D M
theorem KH.lit {P : Program} {k : TypeId} (h : KH P k) {x : Int × Int} (hx : wfH x) : WideAt.IsKeyLit (hl x) := h.law.key (h.key x hx)
theorem KH.ne {P : Program} {k : TypeId} (h : KH P k) {x y : Int × Int} (hx : wfH x) (hy : wfH y) (hn : x ≠ y) : hl x ≠ hl y := fun e => hn (by
  have hk := h.key y hy
  rw [← e] at hk
  have := h.law.inj (h.key x hx) hk
  unfold hv at this
  injection this with this
  have h2 := congrArg Array.toList this
  simp at h2
  exact Prod.ext h2.1 h2.2)
section
variable {P : Program} {k e t : TypeId} {w w' : World} {b r n : Nat} {M : Int × Int → Option Value}
theorem MapH.lt (h : MapH w P k b n M) : b < w.heap.size := by obtain ⟨D, h, _⟩ := h; exact h.lt
theorem MapH.keep (h : MapH w P k b n M) (hk : w'.heap[b]? = w.heap[b]?) : MapH w' P k b n M := by
  obtain ⟨D, ⟨es, clock, hb, r⟩, hd⟩ := h; exact ⟨D, ⟨es, clock, hk.trans hb, r⟩, hd⟩
theorem MapH.new (w : World) (P : Program) (k : TypeId) : MapH (w.alloc (.map #[] 0)) P k w.heap.size 0 (fun _ => none) :=
  ⟨_, World.ownsMap_made w P k anyH, fun i _ zd => rfl⟩
/-- 'v, ok := m[x]'. -/
theorem MapH.look (K : KH P k) (h : MapH w P k b n M) (ht : P.underlying t = some (.map k e)) {z : Value} (hz : (zeroValue e).run P w = .ok z w) {x : Int × Int} (hx : wfH x) :
    (Instr.lookup t (.map (some b)) (hv x) true).run P w = .ok (.tuple #[(M x).getD z, .bool (M x).isSome]) w := by
  obtain ⟨D, ⟨es, clock, hb, F, hs, rfl⟩, hat⟩ := h
  have ha := hat x hx
  rcases Maps.fit_look true K.law ht hz hb F (K.key x hx) with ⟨hrun, _, hn⟩ | ⟨e0, y, _, _, hrun, hR, hn, _⟩
  · cases hM : M x with
    | none => simpa using hrun
    | some v => have := (hn .nil).symm.trans (ha .nil); rw [hM] at this; cases this
  · obtain rfl : y = (.held e0.val, []) := by unfold anyH at hR; injection hR with hR; exact hR.symm
    cases hM : M x with
    | none => have := (hn .nil).symm.trans (ha .nil); rw [hM] at this; cases this
    | some v =>
      have := (hn .nil).symm.trans (ha .nil); rw [hM] at this
      injection this with this
      subst this
      simpa using hrun
def updH (M : Int × Int → Option Value) (x : Int × Int) (v : Option Value) : Int × Int → Option Value := fun y => if y = x then v else M y
theorem ReadsH.put (K : KH P k) {D : DataW Value} (h : ReadsH D M) (hD : Maps.IsMap D) {x : Int × Int} (hx : wfH x) (v : Value) : ReadsH (D.put (hl x) (.held v)) (updH M x (some v)) := fun y hy zd => by
  unfold updH
  by_cases e : y = x
  · subst e; rw [if_pos rfl, Maps.atKey_put_same hD (K.lit hy)]
  · rw [if_neg e, Maps.atKey_put_other (K.ne hy hx e), h y hy]
variable {ops : Array Oper} {rest : List Oper} {o : Oper} {a : Act} {Q : Exit → Act → World → Prop}
/-- 'm[x] = v'. -/
theorem wpList_mapH_put (K : KH P k) (hg : o.guard = none) (m x v : Operand) (t : TypeId) (hop : o.op = Op.mapUpdate t m x v) (e : TypeId) (ht : P.underlying t = some (.map k e)) (b n : Nat) (M : Int × Int → Option Value)
    (hm : a.eval m = .map (some b)) (h : MapH w P k b n M) (hn : n < maxLen) (i : Int × Int) (hi : wfH i) (val : Value) (hx : a.eval x = hv i) (hv' : a.eval v = val)
    (hK : ∀ w', MapH w' P k b (n + 1) (updH M i (some val)) → w.grownBy w' (some b) → wpList P ops Q rest (a.put o.dst undef) w') : wpList P ops Q (o :: rest) a w := by
  obtain ⟨D, h, hd⟩ := h
  refine wpList_mapUpdate_own w hg m x v t hop k e K.law ht anyH b n D hm h hn (hv i) val (hl i) hx hv' (K.key i hi) (.held val) [] rfl ?_
  intro w1 h1 h2
  exact hK w1 ⟨_, h1, hd.put K h.isMap hi val⟩ h2
end
def MapHR (P : Program) (k : TypeId) (b n : Nat) (M : Int × Int → Option Value) : Res := fun w S => MapH w P k b n M ∧ ∀ x, S x ↔ x = b
theorem MapHR.ok (P : Program) (k : TypeId) (b n : Nat) (M : Int × Int → Option Value) : Ok (MapHR P k b n M) :=
  ⟨fun ⟨h, hs⟩ x hx => by rw [(hs x).1 hx]; exact h.lt, fun ⟨h, hs⟩ hk => ⟨h.keep (hk b ((hs b).2 rfl)), hs⟩⟩
section
variable {w0 w w' : World} {S0 : Nat → Prop} {L : List Res} {P : Program} {k : TypeId} {b n n' : Nat} {M M' : Int × Int → Option Value}
theorem St.maph (h : St w0 S0 w L) (i : Nat) (hi : L[i]? = some (MapHR P k b n M)) : MapH w P k b n M := by obtain ⟨S, hb, _⟩ := h.get i hi; exact hb
theorem St.maph_new (h : St w0 S0 w L) (P : Program) (k : TypeId) : St w0 S0 (w.alloc (.map #[] 0)) (L ++ [MapHR P k w.heap.size 0 (fun _ => none)]) :=
  h.more ((Below.refl _ _).alloc (Nat.le_refl _) _) (Star.one (MapHR.ok _ _ _ _ _) ⟨MapH.new w P k, fun b => Iff.rfl⟩) (fun b hb => by have hb : b = w.heap.size := hb; omega)
theorem St.maph_turn (h : St w0 S0 w L) (i : Nat) (hi : L[i]? = some (MapHR P k b n M)) (hm : MapH w' P k b n' M') (hg : w.grownBy w' (some b)) : St w0 S0 w' (L.set i (MapHR P k b n' M')) :=
  h.turn hi (MapHR.ok _ _ _ _ _) fun T ⟨_, hT⟩ => ⟨T, ⟨hm, hT⟩, ⟨hg.os, hg.tape, hg.output, hg.size, fun j hj hn => hg.block j hj fun e => hn ((hT j).2 (by injection e)), fun b h => Or.inl h⟩⟩
end
end Go.Proofs.Ytiaojhjghededaa
