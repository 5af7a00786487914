/- Layer 20: what is kept of a device, its buffers, and how many are open, whatever is done. -/
import Derived.Test.YtcbhhajcgfiigaaGreatIoqW
namespace Go.Proofs.YtcbhhajcgfiigaaGreat
open Go.RowKit
set_option linter.unusedVariables false
set_option maxRecDepth 100000
set_option maxHeartbeats 1000000
def lenG (j : Nat) : Nat := [8, 8, 8, 20, 20].getD j 0
/-- A book's step, by which as many are open or untold as were. -/
structure BkS (b b' : Bk) : Prop where
  sum : cntO b'.op + b'.un.length = cntO b.op + b.un.length
  now : b'.now = b.now
  cost : b'.cost = b.cost
  sub : ∀ k x, b'.op k = some x → b.op k = some x
theorem BkS.refl (b : Bk) : BkS b b := ⟨rfl, rfl, rfl, fun _ _ h => h⟩
theorem BkS.out (b : Bk) (f : Ft) : BkS b (b.out f) := by
  cases hs : slotO b.op f.id with
  | none => rw [Bk.out_none hs]; exact BkS.refl b
  | some k =>
    obtain ⟨h1, h2, h3, h4⟩ := cnt_out hs
    exact ⟨by rw [h2, List.length_append, List.length_singleton]; omega, h3, h4, fun k x hx => out_at hx⟩
theorem BkS.ans (b : Bk) (id st : Int) (bad : Bool) : BkS b (b.ans id st bad) := by
  unfold Bk.ans
  by_cases h : st < 0 ∨ 255 < st
  · rw [if_pos h]; exact BkS.refl b
  · rw [if_neg h]; exact BkS.out b _
/-- What is kept while steps are gone through. -/
structure QtI (sz i : Nat) (c op now : Int) (D : Dv) : Prop where
  I : DvI 5 sz 1 D
  nx : D.nx ≤ i
  hop : op = ((cntO D.b.op + D.b.un.length : Nat) : Int)
  b0 : D.b.now = now
  b1 : D.b.cost = c
  n0 : 0 ≤ now
  n1 : now ≤ 200 * (i : Int)
  dd : ∀ k x, D.b.op k = some x → x.2 ≤ now + 200
  bf : ∀ j, j < 4 → (D.st j).gen = 1 ∧ (D.st j).owner ≠ 0 ∧ (D.st j).bs.length = lenG j
/-- Who may have written. -/
def QtS (kd : Int) (D D' : Dv) : Prop := ∀ j, j < 4 → (D'.st j).bs = (D.st j).bs ∨ (kd = 3 ∧ (D.st j).owner = 3)
section
variable {sz i k : Nat} {c op now f : Int} {D D' : Dv} {r : Rq} {kd : Int}
theorem QtS.keep (h : KeepS 5 D.st D'.st) : QtS kd D D' := fun j hj => Or.inl (h j (by omega)).1
theorem bf_keep {st : Nat → po.Buf} (h : ∀ j, j < 4 → (D.st j).gen = 1 ∧ (D.st j).owner ≠ 0 ∧ (D.st j).bs.length = lenG j) (hK : KeepS 5 D.st st) : ∀ j, j < 4 → (st j).gen = 1 ∧ (st j).owner ≠ 0 ∧ (st j).bs.length = lenG j := fun j hj => by
  obtain ⟨a, b, d⟩ := h j hj
  obtain ⟨k1, k2, k3, -⟩ := hK j (by omega)
  exact ⟨k2.trans a, fun e => b (k3.1 e), by rw [k1]; exact d⟩
theorem qt_new (hs : 1 ≤ sz ∧ sz ≤ 64) (hc : newA c = 0) : QtI sz 0 c 0 0 (Dv.new (stG 4) c) := by
  refine ⟨newI hs hc, Nat.le_refl _, ?_, rfl, rfl, Int.le_refl _, by omega, fun k x h => (by cases h), fun j hj => ?_⟩
  · have e : cntO (fun _ => none) = 0 := by kernel_rfl
    show (0 : Int) = ((cntO (fun _ => none) + 0 : Nat) : Int)
    rw [e]; rfl
  · obtain ⟨a, b, d, -⟩ := stG_len 4 j (by omega)
    exact ⟨b, by show (stG 4 j).owner ≠ 0; rw [d, if_pos hj]; omega, a⟩
/-- A step by which the book keeps the sum. -/
theorem QtI.step (h : QtI sz i c op now D) (hI : DvI 5 sz 1 D') (en : D'.nx = D.nx) (hb : BkS D.b D'.b) (hK : KeepS 5 D.st D'.st) : QtI sz (i + 1) c op now D' ∧ QtS kd D D' :=
  ⟨⟨hI, by rw [en]; have := h.nx; omega, by rw [h.hop, hb.sum], hb.now.trans h.b0, hb.cost.trans h.b1, h.n0, by have := h.n1; omega, fun k x hx => h.dd k x (hb.sub k x hx), bf_keep h.bf hK⟩, QtS.keep hK⟩
theorem QtI.sub (h : QtI sz i c op now D) (hi : i < 120) (hd : r.dead ≤ now + 200) (hh : (f ≠ 0 ∧ D' = D) ∨ (f = 0 ∧ opnA D.b r.id r.dead = 0 ∧ ¬ D.posted r.id ∧ ∃ st', D' = Dv.newR { D with q := { D.q with l := D.q.l ++ [r.wt] }, b := D.b.opn r.id r.dead, st := st' } r.id r ∧ KeepS 5 D.st st' ∧ DvI 5 sz 1 D')) :
    (f ≠ 0 ∧ QtI sz (i + 1) c op now D' ∧ QtS kd D D') ∨ (f = 0 ∧ QtI sz (i + 1) c (op + 1) now D' ∧ QtS kd D D') := by
  rcases hh with ⟨hf, rfl⟩ | ⟨hf, hA, -, st', rfl, hK, hI⟩
  · obtain ⟨a, b⟩ := h.step (D' := D') h.I rfl (BkS.refl _) (KeepS.refl _ _) (kd := kd)
    exact Or.inl ⟨hf, a, b⟩
  · obtain ⟨c1, c2, c3, c4⟩ := cnt_opn hA
    refine Or.inr ⟨hf, ⟨hI, by show D.nx + 1 ≤ i + 1; have := h.nx; omega, ?_, c3.trans h.b0, c4.trans h.b1, h.n0, by have := h.n1; omega, fun k x hx => ?_, bf_keep h.bf hK⟩, QtS.keep hK⟩
    · show op + 1 = ((cntO (D.b.opn r.id r.dead).op + (D.b.opn r.id r.dead).un.length : Nat) : Int)
      rw [c1, c2, h.hop]; omega
    · rcases opn_at hA hx with h2 | rfl
      · exact h.dd k x h2
      · exact hd
theorem QtI.take (h : QtI sz i c op now D) {st' : Nat → po.Buf} (hK : KeepS 5 D.st st') (hv : (D.rq k).vo = true → st' = D.st) (hI : DvI 5 sz 1 (D.tkD 0 ⟨D.g.put, D.g.taken + 1, D.g.reaped, D.g.D⟩ k st')) : QtI sz (i + 1) c op now (D.tkD 0 ⟨D.g.put, D.g.taken + 1, D.g.reaped, D.g.D⟩ k st') ∧ QtS kd D (D.tkD 0 ⟨D.g.put, D.g.taken + 1, D.g.reaped, D.g.D⟩ k st') := by
  have est : (if (D.rq k).vo then D.st else st') = st' := by cases e : (D.rq k).vo with | true => exact (hv e).symm | false => rfl
  have eD : D.tkD 0 ⟨D.g.put, D.g.taken + 1, D.g.reaped, D.g.D⟩ k st' = { D with g := ⟨D.g.put, D.g.taken + 1, D.g.reaped, D.g.D⟩, rq := updR D.rq k { D.rq k with tk := true }, st := st' } := by
    unfold Dv.tkD; rw [if_pos rfl, est]
  rw [eD] at hI ⊢
  exact h.step hI rfl (BkS.refl _) hK
theorem QtI.fin (h : QtI sz i c op now D) {g' : ri.RSt} {bad : Bool} (hI : DvI 5 sz 1 (D.finD f g' k bad)) : QtI sz (i + 1) c op now (D.finD f g' k bad) ∧ QtS kd D (D.finD f g' k bad) := by
  obtain ⟨e1, -, e3, e4, -, -, -⟩ := finD_same (D := D) (k := k) f g' bad
  exact h.step hI e3 (by rw [e1]; exact BkS.refl _) (by rw [e4]; exact KeepS.refl _ _)
theorem QtI.reap (h : QtI sz i c op now D) {g' : ri.RSt} {stt : Int} {q' : od.OSt} {st' : Nat → po.Buf} (hI : DvI 5 sz 1 (D.rpD f g' k stt q' st')) (hK : KeepS 5 D.st (D.rpD f g' k stt q' st').st) : QtI sz (i + 1) c op now (D.rpD f g' k stt q' st') ∧ QtS kd D (D.rpD f g' k stt q' st') := by
  refine h.step hI ?_ ?_ hK
  · unfold Dv.rpD
    by_cases e : f = 0
    · rw [if_pos e]; by_cases e2 : (D.rq k).vo = true
      · rw [if_pos e2]
      · rw [if_neg e2]; rfl
    · rw [if_neg e]
  · unfold Dv.rpD
    by_cases e : f = 0
    · rw [if_pos e]; by_cases e2 : (D.rq k).vo = true
      · rw [if_pos e2]; exact BkS.refl _
      · rw [if_neg e2]; exact BkS.ans _ _ _ _
    · rw [if_neg e]; exact BkS.refl _
theorem QtI.can (h : QtI sz i c op now D) {id : Int} {q' : od.OSt} {st' : Nat → po.Buf} (hI : DvI 5 sz 1 (D.canD id k q' st')) (hK : KeepS 5 D.st (D.canD id k q' st').st) : QtI sz (i + 1) c op now (D.canD id k q' st') ∧ QtS kd D (D.canD id k q' st') := by
  refine h.step hI ?_ ?_ hK
  · unfold Dv.canD
    by_cases e : outA D.b id = 0
    · rw [if_pos e]; rfl
    · rw [if_neg e]
  · unfold Dv.canD
    by_cases e : outA D.b id = 0
    · rw [if_pos e]; exact BkS.out _ _
    · rw [if_neg e]; exact BkS.refl _
theorem QtI.write (h : QtI sz i c op now D) {st' : Nat → po.Buf} (hI : DvI 5 sz 1 { D with st := st' }) (h1 : ∀ i, i < 5 → (st' i).owner = (D.st i).owner ∧ (st' i).gen = (D.st i).gen ∧ (st' i).bs.length = (D.st i).bs.length ∧ (st' i).refs = (D.st i).refs) (h2 : ∀ i, i < 5 → (D.st i).owner ≠ 3 → (st' i).bs = (D.st i).bs) : QtI sz (i + 1) c op now { D with st := st' } ∧ QtS 3 D { D with st := st' } := by
  refine ⟨⟨hI, by have := h.nx; show D.nx ≤ i + 1; omega, h.hop, h.b0, h.b1, h.n0, by have := h.n1; omega, h.dd, fun j hj => ?_⟩, fun j hj => ?_⟩
  · obtain ⟨a, b, d⟩ := h.bf j hj
    obtain ⟨k1, k2, k3, -⟩ := h1 j (by omega)
    exact ⟨k2.trans a, by show (st' j).owner ≠ 0; rw [k1]; exact b, k3.trans d⟩
  · by_cases e : (D.st j).owner = 3
    · exact Or.inr ⟨rfl, e⟩
    · exact Or.inl (h2 j (by omega) e)
theorem QtI.go (h : QtI sz i c op now D) {u : Int} {o : List Ft} (h0 : now ≤ u) (h1 : u ≤ now + 200) (hi : i < 120) (hI : DvI 5 sz 1 D') (hG : GoneP 5 (D.b.gon u) o { D with b := D.b.gon u } D') (hl : goA D.b.now u = 0 → o.length + cntO D'.b.op = cntO D.b.op + D.b.un.length ∧ D'.b.un = []) :
    goA D.b.now u = 0 ∧ QtI sz (i + 1) c (op - o.length) u D' ∧ QtS kd D D' := by
  have := h.n1
  have hg : goA D.b.now u = 0 := by unfold goA; rw [if_pos (by omega), if_neg (by rw [h.b0]; omega)]
  obtain ⟨l1, l2⟩ := hl hg
  have hb : D'.b = D.b.gon u := hG.b
  have eg : (D.b.gon u).now = u ∧ (D.b.gon u).cost = D.b.cost ∧ (D.b.gon u).op = opF D.b u := by unfold Bk.gon; rw [if_pos hg]; exact ⟨rfl, rfl, rfl⟩
  refine ⟨hg, ⟨hI, by have e : D'.nx = D.nx := hG.nx; rw [e]; have := h.nx; omega, by rw [l2, h.hop]; show _ = ((cntO D'.b.op + 0 : Nat) : Int); omega, by rw [hb]; exact eg.1, by rw [hb, eg.2.1]; exact h.b1, by have := h.n0; omega, by omega, fun k x hx => ?_, bf_keep h.bf hG.st⟩, QtS.keep hG.st⟩
  rw [hb, eg.2.2] at hx
  have := h.dd k x (opF_some.1 hx).1
  omega
/-- At last all come out. -/
theorem QtI.last (h : QtI sz i c op now D) (hi : i ≤ 120) (hc : 1 ≤ c) {o : List Ft} (hI : DvI 5 sz 1 D') (hG : GoneP 5 (D.b.gon (now + 1000)) o { D with b := D.b.gon (now + 1000) } D') (hl : goA D.b.now (now + 1000) = 0 → o.length + cntO D'.b.op = cntO D.b.op + D.b.un.length ∧ D'.b.un = []) :
    goA D.b.now (now + 1000) = 0 ∧ (o.length : Int) = op ∧ (∀ j, j < 4 → (D'.st j).owner = 1 ∧ (D'.st j).gen = 1) ∧ D'.q.l = [] := by
  have := h.n1
  have hg : goA D.b.now (now + 1000) = 0 := by unfold goA; rw [if_pos (by omega), if_neg (by rw [h.b0]; omega)]
  obtain ⟨l1, l2⟩ := hl hg
  have hb : D'.b = D.b.gon (now + 1000) := hG.b
  have hc0 : cntO D'.b.op = 0 := by
    rw [hb]; exact gon_all hg fun k x hx => by have := h.dd k x hx; rw [h.b1]; omega
  refine ⟨hg, by rw [h.hop]; omega, fun j hj => ?_, hI.no_wait hc0⟩
  obtain ⟨a, b, d⟩ := bf_keep h.bf hG.st j hj
  exact ⟨hI.c.task (by omega) b fun k hk hv => (by rw [hI.none_open hc0 k hk] at hv; cases hv), a⟩
end
end Go.Proofs.YtcbhhajcgfiigaaGreat
