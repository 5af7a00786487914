/- Words for objects in memory: a block that is known whole, and 'all else stays'. Plain theorems; nothing of one law. -/
import Derived.WalkKit
import Derived.Below
import Derived.Laws.OwnMore
import Derived.Laws.Rows
import Derived.Deep.Draws
import Derived.Lib.Hide
import Derived.Deep.QuietTactic
namespace Go.Proofs.YtdjhpdacglojaaaGreat
open Go.RowKit
/-- Block g is just these cells, of that element type; none is frozen. -/
def Blk (w : World) (g : Nat) (t : TypeId) (cs : Array Value) : Prop := w.heap[g]? = some (.cells cs t (0, 0))
section
variable {w w' : World} {g : Nat} {t : TypeId} {cs : Array Value}
theorem Blk.lt (h : Blk w g t cs) : g < w.heap.size := by
  rcases Nat.lt_or_ge g w.heap.size with hlt | hge
  · exact hlt
  · unfold Blk at h; rw [Array.getElem?_eq_none hge] at h; cases h
theorem Blk.cell (h : Blk w g t cs) (i : Nat) : w.cell? ⟨g, i, none⟩ = cs[i]? := by unfold Blk at h; simp [World.cell?, h]
theorem Blk.frozen (h : Blk w g t cs) (i : Nat) : w.frozen? ⟨g, i, none⟩ = false := by unfold Blk at h; simp [World.frozen?, h]
theorem Blk.new (w : World) (t : TypeId) (cs : Array Value) : Blk (w.alloc (.cells cs t)) w.heap.size t cs := by
  show (w.heap.push _)[w.heap.size]? = _; simp
theorem Blk.drew (h : Blk w g t cs) : Blk w.drew g t cs := h
theorem Blk.drewN (h : Blk w g t cs) (n : Nat) : Blk (w.drewN n) g t cs := h
theorem Blk.alloc (h : Blk w g t cs) (o : Obj) : Blk (w.alloc o) g t cs := (Below.heap_alloc w o g h.lt).trans h
theorem Blk.set_ (h : Blk w g t cs) (i : Nat) (u : Value) : Blk (w.setCell ⟨g, i, none⟩ u) g t (cs.setIfInBounds i u) := by
  unfold Blk at h ⊢
  simp [World.setCell, Array.getElem?_modify, h]
theorem Blk.far (h : Blk w g t cs) {p : Addr} (hp : g ≠ p.block) (u : Value) : Blk (w.setCell p u) g t cs := (Below.heap_setCell w p u g hp).trans h
theorem Blk.below {B : Nat} (h : Blk w g t cs) (hb : Below B w w') (hg : g < B) : Blk w' g t cs := (hb.block g hg).trans h
end

/-- Of what there was only block g may have turned. -/
structure Only (g : Nat) (w w' : World) : Prop where
  os : w'.os = w.os
  tape : w'.tape = w.tape
  output : w'.output = w.output
  size : w.heap.size ≤ w'.heap.size
  block : ∀ k, k < w.heap.size → k ≠ g → w'.heap[k]? = w.heap[k]?
section
variable {a b c w w' : World} {g : Nat}
theorem Only.refl (g : Nat) (w : World) : Only g w w := ⟨rfl, rfl, rfl, Nat.le_refl _, fun _ _ _ => rfl⟩
theorem Only.trans (h : Only g a b) (k : Only g b c) : Only g a c :=
  ⟨k.os.trans h.os, k.tape.trans h.tape, k.output.trans h.output, Nat.le_trans h.size k.size, fun i hi hn => (k.block i (Nat.lt_of_lt_of_le hi h.size) hn).trans (h.block i hi hn)⟩
theorem Only.drew (h : Only g a w) : Only g a w.drew := ⟨h.os, h.tape, h.output, h.size, h.block⟩
theorem Only.drewN (h : Only g a w) (n : Nat) : Only g a (w.drewN n) := ⟨h.os, h.tape, h.output, h.size, h.block⟩
theorem Only.alloc (h : Only g a w) (o : Obj) : Only g a (w.alloc o) :=
  h.trans ⟨rfl, rfl, rfl, by simp, fun i hi _ => Below.heap_alloc _ _ _ hi⟩
theorem Only.setCell (h : Only g a w) {p : Addr} (hp : p.block = g ∨ a.heap.size ≤ p.block) (u : Value) : Only g a (w.setCell p u) :=
  ⟨h.os, h.tape, h.output, by simpa [World.setCell] using h.size, fun i hi hn => (Below.heap_setCell _ _ _ _ (by rcases hp with e | e <;> omega)).trans (h.block i hi hn)⟩
theorem Only.set_ (h : Only g a w) (i : Nat) (u : Value) : Only g a (w.setCell ⟨g, i, none⟩ u) := h.setCell (p := ⟨g, i, none⟩) (Or.inl rfl) u
theorem Only.below {B : Nat} (h : Only g w w') (hB : B ≤ g) (hs : B ≤ w.heap.size) : Below B w w' :=
  ⟨h.os, h.tape, h.output, h.size, fun k hk => h.block k (by omega) (by omega)⟩
theorem Only.of_below (h : Below w.heap.size w w') (g : Nat) : Only g w w' := ⟨h.os, h.tape, h.output, h.size, fun k hk _ => h.block k hk⟩
theorem Only.blk {t : TypeId} {cs : Array Value} {i : Nat} (h : Only g w w') (hi : Blk w i t cs) (hn : i ≠ g) : Blk w' i t cs := (h.block i hi.lt hn).trans hi
theorem Only.cell (h : Only g w w') {p : Addr} (hp : p.block < w.heap.size) (hn : p.block ≠ g) : w'.cell? p = w.cell? p := World.cell?_of_block (w := w) (h.block p.block hp hn)
theorem Only.frozen (h : Only g w w') {p : Addr} (hp : p.block < w.heap.size) (hn : p.block ≠ g) : w'.frozen? p = w.frozen? p := World.frozen?_of_block (w := w) (h.block p.block hp hn)
end
/-- A callee that leaves the world alone, inside a region that only reads. -/
theorem q_left {P : Program} {f : FuncId} {args : Array Value} {w : World} {n : Nat} {v : Value}
    (h : Calls P f args (w.drewN n) fun e w' => e = .returned v ∧ w.drewN n = w') : Calls P f args (w.drewN n) fun e w'' => e = .returned v ∧ ∃ m, w'' = w.drewN m :=
  h.mono fun _ _ ⟨he, hm⟩ => ⟨he, n, hm.symm⟩
theorem q_add {P : Program} {f : FuncId} {args : Array Value} {w : World} {a n : Nat} {v : Value}
    (h : Calls P f args (w.drewN (a + n)) fun e w' => e = .returned v ∧ w.drewN (a + n) = w') :
    Calls P f args (w.drewN (a + n)) fun e w'' => e = .returned v ∧ ∃ m, w'' = w.drewN (a + m) :=
  h.mono fun _ _ ⟨he, hm⟩ => ⟨he, n, hm.symm⟩
/-- An argument by value, boxed ahead of a call that turns nothing old: its cells stay. -/
theorem boxed {w w' : World} {C : Array Value} {t : TypeId} (hw : Below (w.alloc (.cells C t)).heap.size (w.alloc (.cells C t)) w') (i : Nat) : w'.cell? ⟨w.heap.size, i, none⟩ = C[i]? := by
  rw [hw.cell (p := ⟨w.heap.size, i, none⟩) (by simp)]
  exact (Blk.new w t C).cell i
theorem boxed_blk {w w' : World} {C : Array Value} {t : TypeId} (hw : Below (w.alloc (.cells C t)).heap.size (w.alloc (.cells C t)) w') : Blk w' w.heap.size t C :=
  (Blk.new w t C).below hw (by simp)
theorem Blk.two {w : World} {g : Nat} {t : TypeId} {x y : Value} (h : Blk w g t #[x, y]) : w.cell? ⟨g, 0, none⟩ = some x ∧ w.cell? ⟨g, 1, none⟩ = some y :=
  ⟨by have := h.cell 0; simpa using this, by have := h.cell 1; simpa using this⟩
theorem Blk.one {w : World} {g : Nat} {t : TypeId} {x : Value} (h : Blk w g t #[x]) : w.cell? ⟨g, 0, none⟩ = some x := by have := h.cell 0; simpa using this
/-- Two arguments by value, boxed ahead of a call that turns nothing old. -/
theorem boxed2 {w w' : World} {C D : Array Value} {t u : TypeId} (hw : Below ((w.alloc (.cells C t)).alloc (.cells D u)).heap.size ((w.alloc (.cells C t)).alloc (.cells D u)) w') :
    Blk w' w.heap.size t C ∧ Blk w' (w.heap.size + 1) u D ∧ Below w.heap.size w w' := by
  refine ⟨((Blk.new w t C).alloc _).below hw (by simp; omega), ?_, ?_⟩
  · have h := (Blk.new (w.alloc (.cells C t)) u D).below hw (by simp)
    simpa using h
  · exact (((Below.refl _ _).alloc (Nat.le_refl _) _).alloc (by simp) _).trans (hw.mono (by simp; omega))
/-- A call that turned nothing old: a block that was there stays. -/
theorem Blk.stay {w w' : World} {g : Nat} {t : TypeId} {cs : Array Value} (h : Blk w g t cs) (hb : Below w.heap.size w w') : Blk w' g t cs := h.below hb h.lt
theorem below_then {w0 w w' : World} (h : Below w0.heap.size w0 w) (k : Below w.heap.size w w') : Below w0.heap.size w0 w' := h.trans (k.mono h.size)
/-- A box was laid, then nothing old was turned. -/
theorem below_box {w w' : World} {o : Obj} (hw : Below (w.alloc o).heap.size (w.alloc o) w') : Below w.heap.size w w' :=
  ((Below.refl _ _).alloc (Nat.le_refl _) o).trans (hw.mono (by simp))
/-- Of what there was only block g, and block o if that is one, may have turned. -/
structure Two (g : Nat) (o : Option Nat) (w w' : World) : Prop where
  os : w'.os = w.os
  tape : w'.tape = w.tape
  output : w'.output = w.output
  size : w.heap.size ≤ w'.heap.size
  block : ∀ k, k < w.heap.size → k ≠ g → some k ≠ o → w'.heap[k]? = w.heap[k]?
section
variable {a b c w w' : World} {g : Nat} {o : Option Nat}
theorem Two.of_only (h : Only g w w') (o : Option Nat) : Two g o w w' := ⟨h.os, h.tape, h.output, h.size, fun k hk hn _ => h.block k hk hn⟩
theorem Two.of_grown (h : w.grownBy w' o) (g : Nat) : Two g o w w' := ⟨h.os, h.tape, h.output, h.size, fun k hk _ hn => h.block k hk hn⟩
theorem Two.trans (h : Two g o a b) (k : Two g o b c) : Two g o a c :=
  ⟨k.os.trans h.os, k.tape.trans h.tape, k.output.trans h.output, Nat.le_trans h.size k.size, fun i hi hn ho => (k.block i (Nat.lt_of_lt_of_le hi h.size) hn ho).trans (h.block i hi hn ho)⟩
theorem Two.drew (h : Two g o a w) : Two g o a w.drew := ⟨h.os, h.tape, h.output, h.size, h.block⟩
theorem Two.drewN (h : Two g o a w) (n : Nat) : Two g o a (w.drewN n) := ⟨h.os, h.tape, h.output, h.size, h.block⟩
theorem Two.alloc (h : Two g o a w) (x : Obj) : Two g o a (w.alloc x) :=
  h.trans ⟨rfl, rfl, rfl, by simp, fun i hi _ _ => Below.heap_alloc _ _ _ hi⟩
theorem Two.set_ (h : Two g o a w) (i : Nat) (u : Value) : Two g o a (w.setCell ⟨g, i, none⟩ u) :=
  ⟨h.os, h.tape, h.output, by simpa [World.setCell] using h.size, fun k hk hn ho => (Below.heap_setCell _ _ _ _ hn).trans (h.block k hk hn ho)⟩
theorem Two.below {B : Nat} (h : Two g o w w') (hB : B ≤ g) (ho : ∀ k, o = some k → B ≤ k) (hs : B ≤ w.heap.size) : Below B w w' :=
  ⟨h.os, h.tape, h.output, h.size, fun k hk => h.block k (by omega) (by omega) (fun he => by have := ho k he.symm; omega)⟩
theorem Two.blk {t : TypeId} {cs : Array Value} {i : Nat} (h : Two g o w w') (hi : Blk w i t cs) (hn : i ≠ g) (ho : some i ≠ o) : Blk w' i t cs := (h.block i hi.lt hn ho).trans hi
end
theorem below_drewN {B : Nat} {a w : World} (h : Below B a w) (n : Nat) : Below B a (w.drewN n) := ⟨h.os, h.tape, h.output, h.size, h.block⟩
end Go.Proofs.YtdjhpdacglojaaaGreat
