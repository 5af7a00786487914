/- Layer 20: a device: the words, and a device in memory. -/
import Derived.Test.YtdjhpdacglojaaaGreatPieA
import Derived.Test.YtdjhpdacglojaaaGreatOrA
import Derived.Test.YtdjhpdacglojaaaGreatRiA
import Derived.Test.YtdjhpdacglojaaaGreatLifA
import Derived.Test.YtdjhpdacglojaaaGreatMany
namespace Go.Proofs.YtdjhpdacglojaaaGreat
open Go.RowKit
set_option linter.unusedVariables false
set_option maxRecDepth 100000
set_option maxHeartbeats 4000000
/-- A request as a device knows it. -/
structure Rq where
  id : Int
  op : Int
  dead : Int
  track : Int
  slot : Int
  gen : Int
  frm : Int
  len : Int
  tk : Bool
  fi : Bool
  bd : Bool
  vo : Bool
abbrev Rq.req (r : Rq) : Array Value := #[.int .i64 r.id, .int .i64 r.op, .int .u64 r.dead, .int .i64 r.track, .int .i64 r.slot, .int .u64 r.gen, .int .i64 r.frm, .int .i64 r.len]
abbrev Rq.cells (r : Rq) : Array Value := #[.int .i64 r.id, .int .i64 r.op, .int .u64 r.dead, .int .i64 r.track, .int .i64 r.slot, .int .u64 r.gen, .int .i64 r.frm, .int .i64 r.len, .bool r.tk, .bool r.fi, .bool r.bd, .bool r.vo]
/-- The buffers, who waits, who is in the ring, who is open, and the requests: those that haven't come out by their numbers, those in the ring by their descriptors' numbers. -/
structure Dv where
  st : Nat → po.Buf
  q : od.OSt
  g : ri.RSt
  b : Bk
  nx : Nat
  rq : Nat → Rq
  opn : Int → Option Nat
  pst : Int → Option Nat
/-- Where a device and what it stands on lie. -/
structure Da where
  d : Nat
  p : Nat
  qb : Nat
  rb : Nat
  bb : Nat
  mo : Nat
  mp : Nat
abbrev ptrV (b : Nat) : Value := .pointer (some ⟨b, 0, none⟩)
abbrev devV (a : Da) (sz : Nat) : Array Value := #[ptrV a.p, ptrV a.qb, ptrV a.rb, ptrV a.bb, .int .i64 (sz : Int), .map (some a.mo), .map (some a.mp)]
def reqM (bp : Nat → Nat) (M : Int → Option Nat) (i : Int) : Option Value := (M i).map fun k => ptrV (bp k)
def updK (M : Int → Option Nat) (i : Int) (v : Option Nat) : Int → Option Nat := fun j => if j = i then v else M j
theorem reqM_upd (bp : Nat → Nat) (M : Int → Option Nat) (i : Int) (v : Option Nat) : updI (reqM bp M) i (v.map fun k => ptrV (bp k)) = reqM bp (updK M i v) := by
  funext j; unfold updI reqM updK
  by_cases h : j = i
  · rw [if_pos h, if_pos h]
  · rw [if_neg h, if_neg h]
def updR (rq : Nat → Rq) (k : Nat) (r : Rq) : Nat → Rq := fun j => if j = k then r else rq j
theorem updR_self (rq : Nat → Rq) (k : Nat) (r : Rq) : updR rq k r k = r := if_pos rfl
theorem updR_ne (rq : Nat → Rq) {k j : Nat} (r : Rq) (h : j ≠ k) : updR rq k r j = rq j := if_neg h
def DvL (a : Da) (n sz : Nat) (bp : Nat → Nat) (D : Dv) : List Res :=
  [BlkR a.d 108 (devV a sz), po.PoolR a.p n D.st, od.OQR a.qb D.q, ri.RingR a.rb sz D.g, BookR a.bb D.b, MapR Tryz.prog 3 a.mo D.nx (reqM bp D.opn), MapR Tryz.prog 3 a.mp D.g.put (reqM bp D.pst),
   ManyR 119 (fun k => k < D.nx) bp (fun k => (D.rq k).cells)]
section
variable {w0 w w' : World} {S0 : Nat → Prop} {X : List Res} {a : Da} {n sz : Nat} {bp : Nat → Nat} {D : Dv} {k : Nat}
theorem dv_cells (s : St w0 S0 w (DvL a n sz bp D ++ X)) : Blk w a.d 108 (devV a sz) := s.blk 0 rfl
theorem Blk.seven {t : TypeId} {g : Nat} {x0 x1 x2 x3 x4 x5 x6 : Value} (h : Blk w g t #[x0, x1, x2, x3, x4, x5, x6]) : w.cell? ⟨g, 0, none⟩ = some x0 ∧ w.cell? ⟨g, 1, none⟩ = some x1 ∧ w.cell? ⟨g, 2, none⟩ = some x2 ∧ w.cell? ⟨g, 3, none⟩ = some x3 ∧ w.cell? ⟨g, 4, none⟩ = some x4 ∧ w.cell? ⟨g, 5, none⟩ = some x5 ∧ w.cell? ⟨g, 6, none⟩ = some x6 :=
  ⟨h.cell 0, h.cell 1, h.cell 2, h.cell 3, h.cell 4, h.cell 5, h.cell 6⟩
theorem dv_req (s : St w0 S0 w (DvL a n sz bp D ++ X)) (hk : k < D.nx) : Blk w (bp k) 119 (D.rq k).cells := s.many 7 rfl hk
theorem dv_set (s : St w0 S0 w (DvL a n sz bp D ++ X)) (hk : k < D.nx) (o : Nat) (u : Value) (r : Rq) (hr : (D.rq k).cells.setIfInBounds o u = r.cells) :
    St w0 S0 (w.setCell ⟨bp k, o, none⟩ u) (DvL a n sz bp { D with rq := updR D.rq k r } ++ X) := by
  have h := s.many_set 7 rfl hk o u
  have e : (fun j => if j = k then (D.rq k).cells.setIfInBounds o u else (D.rq j).cells) = fun j => (updR D.rq k r j).cells := by
    funext j; unfold updR
    by_cases h : j = k
    · rw [if_pos h, if_pos h]; exact hr
    · rw [if_neg h, if_neg h]
  rw [e] at h
  exact h
end
/-- 'delete(m, i)', as a step of a region that draws its order. -/
theorem mapI_del_run {P : Program} {k e t : TypeId} {w : World} {b n : Nat} {M : Int → Option Value} (h : MapI w P k b n M) (hk : P.underlying k = some (.int .i64)) (ht : P.underlying t = some (.map k e)) {i : Int} (hi : wfI i) (ty : TypeId) :
    ∃ w', (Builtin.delete_ #[t, k] ty #[.map (some b), .int .i64 i]).run P w = .ok (.tuple #[]) w' ∧ MapI w' P k b n (updI M i none) ∧ w.grownBy w' (some b) := by
  obtain ⟨D, h, hd⟩ := h
  obtain ⟨w', hrun, r1, r2⟩ := h.drop (Maps.int_keyed hk) ht (Maps.keyOf_int_mk hk hi) ty
  exact ⟨w', hrun, ⟨_, r1, hd.del i⟩, r2.grown⟩
theorem step_mapI_del {P : Program} {ops : Array Oper} {o : Oper} {a : Act} {w : World} {Q : Exit → Act → World → Prop} {b n : Nat} {M : Int → Option Value} {K : Act → World → Prop} {E : Prop} (hg : o.guard = none) (m x : Operand) (t k : TypeId) (hop : o.op = Op.call { callee := Callee.builtin Builtin.delete, args := #[m, x], argTypes := #[t, k] }) (e : TypeId) (hk : P.underlying k = some (.int .i64)) (ht : P.underlying t = some (.map k e))
    (hm : a.eval m = .map (some b)) (h : MapI w P k b n M) (i : Int) (hi : wfI i) (hx : a.eval x = .int .i64 i)
    (hK : ∀ w', MapI w' P k b n (updI M i none) → w.grownBy w' (some b) → K (a.put o.dst (.tuple #[])) w') :
    if Region.wanted o (yielded ops a.tmps) = true then Oper.wp P o a w K Q else E := by
  have hw : Region.wanted o (yielded ops a.tmps) = true := by simp [Region.wanted, hg]
  rw [if_pos hw]
  obtain ⟨w', hrun, r1, r2⟩ := mapI_del_run h hk ht hi o.type
  unfold Oper.wp
  simp [execOp, hop, resolve, invoke, builtin, hm, hx, hrun, Result.andThen]
  exact hK w' r1 r2
end Go.Proofs.YtdjhpdacglojaaaGreat
