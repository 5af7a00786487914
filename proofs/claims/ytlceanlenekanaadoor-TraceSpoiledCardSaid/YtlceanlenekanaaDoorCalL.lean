/- Layer 21: is a row of words a command? -/
import Derived.Test.YtlceanlenekanaaDoorCalK
namespace Go.Proofs.YtlceanlenekanaaDoor
open Go.RowKit
set_option linter.unusedVariables false
set_option maxRecDepth 100000
set_option maxHeartbeats 4000000
@[go_sem] theorem as_int (v : Value) (xT : TypeId) (w : World) : (Instr.typeAssert (.iface 3 v) xT 3 true).run Tryd.prog w = .ok (.tuple #[v, .bool true]) w := by kernel_rfl
@[go_sem] theorem as_int_no (v : Value) (xT : TypeId) (w : World) : (Instr.typeAssert (.iface 9 v) xT 3 true).run Tryd.prog w = .ok (.tuple #[.int .i64 0, .bool false]) w := by kernel_rfl
@[go_sem] theorem as_str (v : Value) (xT : TypeId) (w : World) : (Instr.typeAssert (.iface 9 v) xT 9 true).run Tryd.prog w = .ok (.tuple #[v, .bool true]) w := by kernel_rfl
@[go_sem] theorem as_str_no (v : Value) (xT : TypeId) (w : World) : (Instr.typeAssert (.iface 3 v) xT 9 true).run Tryd.prog w = .ok (.tuple #[.string ⟨#[]⟩, .bool false]) w := by kernel_rfl
@[go_sem] theorem as_str_must (v : Value) (xT : TypeId) (w : World) : (Instr.typeAssert (.iface 9 v) xT 9 false).run Tryd.prog w = .ok v w := by kernel_rfl
@[go_sem] theorem as_int_must (v : Value) (xT : TypeId) (w : World) : (Instr.typeAssert (.iface 3 v) xT 3 false).run Tryd.prog w = .ok v w := by kernel_rfl
/-- The cells of a row. -/
def RdC (w : World) (A : Option Addr) (cs : List Value) : Prop := ∀ i u, cs[i]? = some u → ∃ g off, A = some ⟨g, off, none⟩ ∧ g < w.heap.size ∧ w.cell? ⟨g, off + i, none⟩ = some u
theorem anyVs_get {us : List (List UInt8)} {i : Nat} {u : List UInt8} (h : us[i]? = some u) : (anyVs us)[i]? = some (anyB u) := by unfold anyVs; rw [List.getElem?_map, h]; rfl
theorem parseB_bad {n : List UInt8} {r : List (List UInt8)} (h : ¬ (r.all mayN = true ∧ nm n = some r.length)) : (parseB (n :: r)).isSome = false := by rw [parseB_cons, if_neg h]; rfl
theorem parseB_good {n : List UInt8} {r : List (List UInt8)} (h : r.all mayN = true ∧ nm n = some r.length) : (parseB (n :: r)).isSome = true := by rw [parseB_cons, if_pos h]; rfl
theorem allN_none {r : List (List UInt8)} {i : Nat} {x : List UInt8} (h : r[i]? = some x) (hx : mayN x = false) : ¬ r.all mayN = true := fun ha => by
  have := List.all_eq_true.1 ha x (List.mem_of_getElem? h)
  rw [hx] at this
  cases this
theorem allN_more {r : List (List UInt8)} {i : Nat} {x : List UInt8} (h : r[i]? = some x) (hx : mayN x = true) (ha : (r.take i).all mayN = true) : (r.take (i + 1)).all mayN = true := by
  rw [List.take_add_one, h, List.all_append, ha]
  simp [hx]
end Go.Proofs.YtlceanlenekanaaDoor
