/- Layer 20: a device: what always holds of it, and of who comes out. Layer 20: a device: what is started, taken, finished, and leaves the ring, keeps what always holds. Layer 20: a device: what always holds of it, with its book: who is called off, and what goes as the time comes. Layer 20: a device: what Submit tells and does. Layer 20: a device: more of what its steps tell. -/
import Derived.Test.YtdjhpdacglojaaaGreatIqK
import Derived.Test.YtdjhpdacglojaaaGreatLifB
namespace Go.Proofs.YtdjhpdacglojaaaGreat
open Go.RowKit
section
set_option linter.unusedVariables false
set_option maxRecDepth 100000
set_option maxHeartbeats 1000000
/-- A request that may have been let in. -/
structure Rq.good (n : Nat) (G : Int) (r : Rq) : Prop where
  wt : od.mayW r.wt
  op : 0 ≤ r.op ∧ r.op ≤ 15
  sl : 0 ≤ r.slot ∧ r.slot < n
  ge : 0 ≤ r.gen ∧ r.gen ≤ G
  fr : 0 ≤ r.frm ∧ r.frm ≤ 65535
  le : 1 ≤ r.len ∧ r.len ≤ 65536
/-- All but how far it has come. -/
structure Rq.same (r s : Rq) : Prop where
  id : r.id = s.id
  op : r.op = s.op
  dead : r.dead = s.dead
  track : r.track = s.track
  slot : r.slot = s.slot
  gen : r.gen = s.gen
  frm : r.frm = s.frm
  len : r.len = s.len
theorem Rq.same.rfl' (r : Rq) : r.same r := ⟨rfl, rfl, rfl, rfl, rfl, rfl, rfl, rfl⟩
theorem Rq.same.wt {r s : Rq} (h : r.same s) : r.wt = s.wt := by unfold Rq.wt; rw [h.id, h.dead, h.track]
theorem Rq.same.dsc {r s : Rq} (h : r.same s) : r.dsc = s.dsc := by unfold Rq.dsc; rw [h.op, h.id, h.slot, h.gen, h.frm, h.len]
theorem Rq.same.good {n : Nat} {G : Int} {r s : Rq} (h : r.same s) (g : s.good n G) : r.good n G := by
  obtain ⟨a, b, c, d, e, f⟩ := g
  exact ⟨by rw [h.wt]; exact a, by rw [h.op]; exact b, by rw [h.slot]; exact c, by rw [h.gen]; exact d, by rw [h.frm]; exact e, by rw [h.len]; exact f⟩
theorem updR_same {rq : Nat → Rq} {k : Nat} {r : Rq} (h : r.same (rq k)) (j : Nat) : (updR rq k r j).same (rq j) := by
  unfold updR
  by_cases e : j = k
  · rw [if_pos e]; subst e; exact h
  · rw [if_neg e]; exact Rq.same.rfl' _
/-- Whether an entry of the ring is of a request, and as far on. -/
structure isR (d : ri.Dsc) (r : Rq) : Prop where
  op : d.op = r.op
  req : d.req = r.id
  slot : d.slot = r.slot
  gen : d.gen = r.gen
  frm : d.frm = r.frm
  len : d.len = r.len
  dn : d.dn = r.fi
  st : 0 ≤ d.st ∧ d.st ≤ 255
theorem isR.of {d : ri.Dsc} {r s : Rq} (h : isR d r) (e : s.same r) (hf : s.fi = r.fi) : isR d s :=
  ⟨by rw [e.op]; exact h.op, by rw [e.id]; exact h.req, by rw [e.slot]; exact h.slot, by rw [e.gen]; exact h.gen, by rw [e.frm]; exact h.frm, by rw [e.len]; exact h.len, by rw [hf]; exact h.dn, h.st⟩
def ownO (r : Rq) : Int := if r.tk then 3 else 2
/-- What always holds, but of the book. -/
structure DvC (n sz : Nat) (G : Int) (D : Dv) : Prop where
  pok : po.POK n D.st G
  gG : G < 4294967296
  qok : D.q.ok
  gok : D.g.ok sz
  gf : D.g.fine
  rg : ∀ k, k < D.nx → (D.rq k).good n G
  opn : ∀ i k, D.opn i = some k ↔ k < D.nx ∧ (D.rq k).id = i ∧ (D.rq k).vo = false
  psl : ∀ no k, D.pst no = some k → ∃ m : Nat, no = (m : Int) ∧ D.g.reaped ≤ m ∧ m < D.g.put
  pex : ∀ m : Nat, D.g.reaped ≤ m → m < D.g.put → ∃ k, D.pst (m : Int) = some k
  pk : ∀ (m : Nat) k, D.pst (m : Int) = some k → k < D.nx ∧ ((D.rq k).tk = true ↔ m < D.g.taken) ∧ isR (D.g.D m) (D.rq k)
  pid : ∀ no no' k k', D.pst no = some k → D.pst no' = some k' → (D.rq k).id = (D.rq k').id → no = no'
  pop : ∀ no k k', D.pst no = some k → k' < D.nx → (D.rq k').vo = false → (D.rq k).id = (D.rq k').id → k = k'
  tkp : ∀ k, k < D.nx → (D.rq k).vo = false → (∀ no, D.pst no ≠ some k) → (D.rq k).tk = false ∧ (D.rq k).fi = false
  q : ∀ x, x ∈ D.q.l ↔ ∃ k, k < D.nx ∧ (D.rq k).vo = false ∧ (∀ no, D.pst no ≠ some k) ∧ x = (D.rq k).wt
  own : ∀ k, k < D.nx → (D.rq k).vo = false → ∃ i : Nat, i < n ∧ (D.rq k).slot = (i : Int) ∧ (D.st i).owner = ownO (D.rq k) ∧ (D.st i).gen = (D.rq k).gen ∧ (D.rq k).frm + (D.rq k).len ≤ ((D.st i).bs.length : Nat)
  one : ∀ k k', k < D.nx → k' < D.nx → (D.rq k).vo = false → (D.rq k').vo = false → (D.rq k).slot = (D.rq k').slot → k = k'
  who : ∀ i : Nat, i < n → (D.st i).owner = 2 ∨ (D.st i).owner = 3 → ∃ k, k < D.nx ∧ (D.rq k).vo = false ∧ (D.rq k).slot = (i : Int)
  cnt : D.g.put + D.q.l.length ≤ D.nx
  cap : D.nx ≤ 80000
section
variable {n sz : Nat} {G : Int} {D : Dv} {k : Nat}
theorem DvC.bk (h : DvC n sz G D) (b : Bk) : DvC n sz G { D with b := b } :=
  ⟨h.pok, h.gG, h.qok, h.gok, h.gf, h.rg, h.opn, h.psl, h.pex, h.pk, h.pid, h.pop, h.tkp, h.q, h.own, h.one, h.who, h.cnt, h.cap⟩
theorem DvC.uniq (h : DvC n sz G D) {j : Nat} (hj : j < D.nx) (hk : k < D.nx) (vj : (D.rq j).vo = false) (vk : (D.rq k).vo = false) (e : (D.rq j).id = (D.rq k).id) : j = k := by
  have h1 := (h.opn (D.rq k).id j).2 ⟨hj, e, vj⟩
  have h2 := (h.opn (D.rq k).id k).2 ⟨hk, rfl, vk⟩
  rw [h1] at h2; exact Option.some.inj h2
theorem DvC.wf (h : DvC n sz G D) (hk : k < D.nx) : wfI (D.rq k).id := by
  have := (h.rg k hk).wt.1
  exact wf_small (by have := this.1; show -9223372036854775808 ≤ (D.rq k).wt.id; omega) (by have := this.2; show (D.rq k).wt.id ≤ _; omega)
theorem drop_mem {q q' : od.OSt} {id f : Int} (ok : q.ok) (h : od.DropP q id f q') : (∀ y, y ∈ q'.l ↔ y ∈ q.l ∧ y.id ≠ id) ∧ q'.l.length ≤ q.l.length := by
  rcases h with ⟨h1, -, rfl⟩ | ⟨i, x, h1, h2, -, rfl⟩
  · exact ⟨fun y => ⟨fun hy => ⟨hy, h1 y hy⟩, fun hy => hy.1⟩, Nat.le_refl _⟩
  · refine ⟨fun y => ⟨fun hy => ?_, fun ⟨hy, hne⟩ => ?_⟩, List.length_eraseIdx_le _ _⟩
    · obtain ⟨j, hj⟩ := List.getElem?_of_mem hy
      obtain ⟨j', h3, h4, -⟩ := od.erase_at hj
      exact ⟨List.mem_of_getElem? h3, fun e => h4 (ok.one j' i y x h3 h1 (e.trans h2.symm))⟩
    · obtain ⟨j, hj⟩ := List.getElem?_of_mem hy
      show y ∈ q.l.eraseIdx i
      have hji : j ≠ i := fun e => hne (by subst e; rw [h1] at hj; injection hj with hj; subst hj; exact h2)
      by_cases e : j < i
      · exact List.mem_of_getElem? (i := j) (by rw [List.getElem?_eraseIdx, if_pos e]; exact hj)
      · exact List.mem_of_getElem? (i := j - 1) (by rw [List.getElem?_eraseIdx, if_neg (by omega), show j - 1 + 1 = j by omega]; exact hj)
/-- Where the buffer of an open request lies, and what is given back. -/
theorem DvC.give (h : DvC n sz G D) (hk : k < D.nx) (vk : (D.rq k).vo = false) {z c : Int} {st' : Nat → po.Buf} (hz : 1 ≤ z ∧ z ≤ 3 ∧ ownO (D.rq k) ≠ z) (hg : po.Via n D.st (D.rq k).slot (D.rq k).gen (po.GiveB (ownO (D.rq k)) z) c st') :
    ∃ i : Nat, i < n ∧ (D.rq k).slot = (i : Int) ∧ (D.st i).owner = ownO (D.rq k) ∧ c = 0 ∧ st' = po.updB D.st i { D.st i with owner := z } := by
  obtain ⟨i, hi, e1, e2, e3, -⟩ := h.own k hk vk
  have ho : ownO (D.rq k) = 2 ∨ ownO (D.rq k) = 3 := by unfold ownO; cases (D.rq k).tk <;> simp
  refine ⟨i, hi, e1, e2, ?_⟩
  rcases hg with ⟨hn, -, -⟩ | ⟨j, b', hj, f1, f2, f3, hB, rfl⟩
  · exact (hn ⟨⟨by omega, by omega⟩, by rw [e1, Int.toNat_natCast, e2]; omega, by rw [e1, Int.toNat_natCast]; exact e3⟩).elim
  · obtain rfl : j = i := by rw [e1] at f1; omega
    rcases hB with ⟨hw, -, -⟩ | ⟨hw, hne, -, -⟩ | ⟨hw, -, rfl, rfl⟩
    · exact (hw ⟨⟨by omega, by omega⟩, ⟨hz.1, hz.2.1⟩, hz.2.2⟩).elim
    · exact (hne e2).elim
    · exact ⟨rfl, rfl⟩
theorem DvC.give_ex (h : DvC n sz G D) (hk : k < D.nx) (z : Int) : ∃ c st', po.Via n D.st (D.rq k).slot (D.rq k).gen (po.GiveB (ownO (D.rq k)) z) c st' := po.via_ex (po.give_b _ _)
/-- What of the buffers stays, whoever owns them. -/
def KeepS (n : Nat) (st st' : Nat → po.Buf) : Prop := ∀ i, i < n → (st' i).bs = (st i).bs ∧ (st' i).gen = (st i).gen ∧ ((st' i).owner = 0 ↔ (st i).owner = 0) ∧ (st' i).refs = (st i).refs
theorem KeepS.refl (n : Nat) (st : Nat → po.Buf) : KeepS n st st := fun _ _ => ⟨rfl, rfl, Iff.rfl, rfl⟩
theorem KeepS.trans {n : Nat} {a b c : Nat → po.Buf} (h : KeepS n a b) (k : KeepS n b c) : KeepS n a c := fun i hi => ⟨(k i hi).1.trans (h i hi).1, (k i hi).2.1.trans (h i hi).2.1, (k i hi).2.2.1.trans (h i hi).2.2.1, (k i hi).2.2.2.trans (h i hi).2.2.2⟩
theorem KeepS.upd {n : Nat} {st : Nat → po.Buf} {i : Nat} {z : Int} (h0 : (st i).owner ≠ 0) (hz : z ≠ 0) : KeepS n st (po.updB st i { st i with owner := z }) := fun j _ => by
  by_cases e : j = i
  · subst e; rw [po.updB_self]; exact ⟨rfl, rfl, ⟨fun h => absurd h hz, fun h => absurd h h0⟩, rfl⟩
  · rw [po.updB_ne _ _ e]; exact ⟨rfl, rfl, Iff.rfl, rfl⟩
theorem ownO_0 (r : Rq) : ownO r ≠ 0 := by unfold ownO; cases r.tk <;> simp
theorem ownO_ne (r : Rq) : ownO r ≠ 1 := by unfold ownO; cases r.tk <;> simp
theorem pok_owner {st : Nat → po.Buf} (ok : po.POK n st G) {i : Nat} (hi : i < n) {z : Int} (hz : 1 ≤ z ∧ z ≤ 3) : po.POK n (po.updB st i { st i with owner := z }) G := by
  refine ⟨ok.n1, ok.n2, ok.g, fun j hj => ?_⟩
  by_cases e : j = i
  · subst e; rw [po.updB_self]; exact ⟨(ok.b j hj).1, ⟨by show 0 ≤ z; omega, by show z ≤ 3; omega⟩, (ok.b j hj).2.2⟩
  · rw [po.updB_ne _ _ e]; exact ok.b j hj
/-- Who comes out leaves all else as it may be. -/
theorem DvC.out (h : DvC n sz G D) (hk : k < D.nx) (vk : (D.rq k).vo = false) {f c : Int} {q' : od.OSt} {st' : Nat → po.Buf} (hq : od.DropP D.q (D.rq k).id f q') (hg : po.Via n D.st (D.rq k).slot (D.rq k).gen (po.GiveB (ownO (D.rq k)) 1) c st') :
    DvC n sz G (D.outD k q' st') := by
  obtain ⟨i, hi, e1, e2, -, rfl⟩ := h.give hk vk ⟨by omega, by omega, ownO_ne _⟩ hg
  obtain ⟨qm, ql⟩ := drop_mem h.qok hq
  have sm : ∀ j, ((D.outD k q' (po.updB D.st i { D.st i with owner := 1 })).rq j).same (D.rq j) := fun j => updR_same (r := { D.rq k with vo := true }) ⟨rfl, rfl, rfl, rfl, rfl, rfl, rfl, rfl⟩ j
  have fl : ∀ j, ((D.outD k q' (po.updB D.st i { D.st i with owner := 1 })).rq j).tk = (D.rq j).tk ∧ ((D.outD k q' (po.updB D.st i { D.st i with owner := 1 })).rq j).fi = (D.rq j).fi := fun j => by
    show (updR _ _ _ j).tk = _ ∧ (updR _ _ _ j).fi = _
    unfold updR
    by_cases e : j = k
    · rw [if_pos e]; subst e; exact ⟨rfl, rfl⟩
    · rw [if_neg e]; exact ⟨rfl, rfl⟩
  have vo : ∀ j, ((D.outD k q' (po.updB D.st i { D.st i with owner := 1 })).rq j).vo = false ↔ j ≠ k ∧ (D.rq j).vo = false := fun j => by
    show (updR _ _ _ j).vo = _ ↔ _
    unfold updR
    by_cases e : j = k
    · rw [if_pos e]; exact ⟨fun h => (by cases h), fun h => absurd e h.1⟩
    · rw [if_neg e]; exact ⟨fun h => ⟨e, h⟩, fun h => h.2⟩
  have oo : ∀ j, ownO ((D.outD k q' (po.updB D.st i { D.st i with owner := 1 })).rq j) = ownO (D.rq j) := fun j => by unfold ownO; rw [(fl j).1]
  generalize hE : D.outD k q' (po.updB D.st i { D.st i with owner := 1 }) = E at *
  have x1 : E.nx = D.nx := by rw [← hE]; rfl
  have x2 : E.g = D.g := by rw [← hE]; rfl
  have x3 : E.pst = D.pst := by rw [← hE]; rfl
  have x4 : E.q = q' := by rw [← hE]; rfl
  have x5 : E.st = po.updB D.st i { D.st i with owner := 1 } := by rw [← hE]; rfl
  have x6 : E.opn = updK D.opn (D.rq k).id none := by rw [← hE]; rfl
  refine ⟨by rw [x5]; exact pok_owner h.pok hi (by omega), h.gG, by rw [x4]; exact hq.ok h.qok, by rw [x2]; exact h.gok, by rw [x2]; exact h.gf, fun j hj => (sm j).good (h.rg j (by rw [x1] at hj; exact hj)), fun z j => ?_, ?_, ?_, ?_, ?_, ?_, ?_, fun x => ?_, ?_, ?_, ?_, ?_, by rw [x1]; exact h.cap⟩
  · rw [x6, x1, (sm j).id, vo j]
    unfold updK
    by_cases e : z = (D.rq k).id
    · rw [if_pos e]
      refine ⟨fun h => (by cases h), fun ⟨h1, h2, h3, h4⟩ => absurd (h.uniq h1 hk h4 vk (h2.trans e)) h3⟩
    · rw [if_neg e, h.opn z j]
      exact ⟨fun ⟨h1, h2, h3⟩ => ⟨h1, h2, fun ee => e (by rw [← h2, ee]), h3⟩, fun ⟨h1, h2, _, h3⟩ => ⟨h1, h2, h3⟩⟩
  · rw [x3, x2]; exact h.psl
  · rw [x3, x2]; exact h.pex
  · rw [x3, x2, x1]
    intro m j hm
    obtain ⟨a, b, c⟩ := h.pk m j hm
    exact ⟨a, by rw [(fl j).1]; exact b, c.of (sm j) (fl j).2⟩
  · rw [x3]; intro no no' j j' h1 h2 e; rw [(sm j).id, (sm j').id] at e; exact h.pid no no' j j' h1 h2 e
  · rw [x3, x1]; intro no j j' h1 h2 h3 e; rw [(sm j).id, (sm j').id] at e; exact h.pop no j j' h1 h2 ((vo j').1 h3).2 e
  · rw [x1, x3]; intro j h1 h2 h3; rw [(fl j).1, (fl j).2]; exact h.tkp j h1 ((vo j).1 h2).2 h3
  · rw [x4, x1, x3, qm x, h.q x]
    constructor
    · rintro ⟨⟨j, h1, h2, h3, rfl⟩, hne⟩
      exact ⟨j, h1, (vo j).2 ⟨fun e => hne (by rw [e]; rfl), h2⟩, h3, (sm j).wt.symm⟩
    · rintro ⟨j, h1, h2, h3, rfl⟩
      obtain ⟨a, b⟩ := (vo j).1 h2
      exact ⟨⟨j, h1, b, h3, (sm j).wt⟩, fun e => a (h.uniq h1 hk b vk ((sm j).id.symm.trans e))⟩
  · rw [x1]
    intro j h1 h2
    obtain ⟨a, b⟩ := (vo j).1 h2
    obtain ⟨i', f1, f2, f3, f4, f5⟩ := h.own j h1 b
    have ne : i' ≠ i := fun e => a (h.one j k h1 hk b vk (by rw [f2, e1, e]))
    refine ⟨i', f1, by rw [(sm j).slot]; exact f2, ?_, ?_, ?_⟩
    · rw [x5, po.updB_ne _ _ ne, oo]; exact f3
    · rw [x5, po.updB_ne _ _ ne, (sm j).gen]; exact f4
    · rw [x5, po.updB_ne _ _ ne, (sm j).frm, (sm j).len]; exact f5
  · rw [x1]; intro j j' h1 h2 h3 h4 e; rw [(sm j).slot, (sm j').slot] at e; exact h.one j j' h1 h2 ((vo j).1 h3).2 ((vo j').1 h4).2 e
  · rw [x1, x5]
    intro i' hi' ho
    by_cases e : i' = i
    · subst e; rw [po.updB_self] at ho; exact absurd ho (by show ¬ ((1 : Int) = 2 ∨ (1 : Int) = 3); omega)
    · rw [po.updB_ne _ _ e] at ho
      obtain ⟨j, h1, h2, h3⟩ := h.who i' hi' ho
      exact ⟨j, h1, (vo j).2 ⟨fun ee => e (by rw [ee, e1] at h3; omega), h2⟩, by rw [(sm j).slot]; exact h3⟩
  · rw [x1, x2, x4]; have := h.cnt; omega
end
end
section
set_option linter.unusedVariables false
set_option maxRecDepth 100000
set_option maxHeartbeats 1000000
section
variable {n sz : Nat} {G : Int} {D : Dv} {k : Nat}
theorem take_mem {q q' : od.OSt} {x : od.Wt} (ok : q.ok) (h : od.TakeP q x 0 q') : x ∈ q.l ∧ (∀ y, y ∈ q'.l ↔ y ∈ q.l ∧ y ≠ x) ∧ q'.l.length + 1 = q.l.length := by
  obtain ⟨up, hn, ⟨h0, -⟩ | ⟨-, i, h1, rfl⟩⟩ := h
  · cases h0
  have hi : i < q.l.length := by
    have := (List.getElem?_eq_some_iff.1 h1).1; exact this
  refine ⟨List.mem_of_getElem? h1, fun y => ⟨fun hy => ?_, fun ⟨hy, hne⟩ => ?_⟩, ?_⟩
  · obtain ⟨j, hj⟩ := List.getElem?_of_mem hy
    obtain ⟨j', h3, h4, -⟩ := od.erase_at hj
    exact ⟨List.mem_of_getElem? h3, fun e => h4 (ok.one j' i y x h3 h1 (by rw [e]))⟩
  · obtain ⟨j, hj⟩ := List.getElem?_of_mem hy
    show y ∈ q.l.eraseIdx i
    have hji : j ≠ i := fun e => hne (by subst e; rw [h1] at hj; injection hj with hj; exact hj.symm)
    by_cases e : j < i
    · exact List.mem_of_getElem? (i := j) (by rw [List.getElem?_eraseIdx, if_pos e]; exact hj)
    · exact List.mem_of_getElem? (i := j - 1) (by rw [List.getElem?_eraseIdx, if_neg (by omega), show j - 1 + 1 = j by omega]; exact hj)
  · show (q.l.eraseIdx i).length + 1 = _
    rw [List.length_eraseIdx, if_pos hi]; omega
theorem good_may (g : (D.rq k).good n G) (hn : n ≤ 800) (hG : G < 4294967296) : ((D.rq k).dsc.inR).may ∧ (D.rq k).dsc.fits := by
  obtain ⟨⟨⟨a1, a2⟩, a3, a4⟩, b, c, d, e, f⟩ := g
  replace a1 : 0 ≤ (D.rq k).id := a1
  replace a2 : (D.rq k).id ≤ 65535 := a2
  have h : ((D.rq k).dsc.inR).may := ⟨b, ⟨a1, a2⟩, ⟨c.1, by show (D.rq k).slot ≤ 65535; omega⟩, ⟨d.1, by show (D.rq k).gen < 4294967296; omega⟩, e, ⟨by show 0 ≤ (D.rq k).len; omega, f.2⟩, ⟨by show (0 : Int) ≤ 0; omega, by show (0 : Int) ≤ 255; omega⟩, Or.inr rfl⟩
  exact ⟨h, h.fits⟩
/-- One is started. -/
theorem DvC.st1 (h : DvC n sz G D) (hlt : D.g.put < D.g.reaped + sz) {x : od.Wt} {q' : od.OSt} (ht : od.TakeP D.q x 0 q') :
    ∃ k g', D.opn x.id = some k ∧ k < D.nx ∧ (D.rq k).vo = false ∧ (∀ no, D.pst no ≠ some k) ∧ x = (D.rq k).wt ∧ ri.PutP sz D.g (D.rq k).dsc (D.g.put : Int) 0 g' ∧ g' = ⟨D.g.put + 1, D.g.taken, D.g.reaped, ri.setD D.g.D D.g.put (D.rq k).dsc.inR⟩ ∧ (D.rq k).dsc.fits ∧ DvC n sz G (D.stD k q' g') := by
  obtain ⟨xm, qm, ql⟩ := take_mem h.qok ht
  obtain ⟨k, hk, vk, un, rfl⟩ := (h.q x).1 xm
  obtain ⟨may, fit⟩ := good_may (h.rg k hk) h.pok.n2 h.gG
  have hP : ri.PutP sz D.g (D.rq k).dsc (D.g.put : Int) 0 ⟨D.g.put + 1, D.g.taken, D.g.reaped, ri.setD D.g.D D.g.put (D.rq k).dsc.inR⟩ := Or.inr (Or.inr ⟨may, hlt, rfl, rfl, rfl⟩)
  have hc := h.cnt
  have hcap := h.cap
  have hok := hP.ok h.gok (by omega)
  refine ⟨k, _, (h.opn _ k).2 ⟨hk, rfl, vk⟩, hk, vk, un, rfl, hP, rfl, fit, ?_⟩
  have hpn : D.pst (D.g.put : Int) = none := by
    cases e : D.pst (D.g.put : Int) with
    | none => rfl
    | some j => obtain ⟨m, h1, h2, h3⟩ := h.psl _ j e; omega
  have ps : ∀ no j, updK D.pst (D.g.put : Int) (some k) no = some j ↔ (no = (D.g.put : Int) ∧ j = k) ∨ (no ≠ (D.g.put : Int) ∧ D.pst no = some j) := fun no j => by
    unfold updK
    by_cases e : no = (D.g.put : Int)
    · rw [if_pos e]; exact ⟨fun h => Or.inl ⟨e, (Option.some.inj h).symm⟩, fun h => h.elim (fun h => by rw [h.2]) fun h => absurd e h.1⟩
    · rw [if_neg e]; exact ⟨fun h => Or.inr ⟨e, h⟩, fun h => h.elim (fun h => absurd h.1 e) fun h => h.2⟩
  have rl := h.gok.r
  have tl := h.gok.t
  have ftk := h.tkp k hk vk un
  show DvC n sz G { D with q := q', g := ⟨D.g.put + 1, D.g.taken, D.g.reaped, ri.setD D.g.D D.g.put (D.rq k).dsc.inR⟩, pst := updK D.pst (D.g.put : Int) (some k) }
  refine ⟨h.pok, h.gG, ht.ok h.qok, hok.1, hP.fine h.gf, h.rg, h.opn, ?_, ?_, ?_, ?_, ?_, ?_, fun x => ?_, h.own, h.one, h.who, ?_, h.cap⟩
  · intro no j hj
    rcases (ps no j).1 hj with ⟨e, -⟩ | ⟨-, e⟩
    · exact ⟨D.g.put, e, by show D.g.reaped ≤ D.g.put; omega, by show D.g.put < D.g.put + 1; omega⟩
    · obtain ⟨m, h1, h2, h3⟩ := h.psl no j e; exact ⟨m, h1, h2, by show m < D.g.put + 1; omega⟩
  · intro m h1 h2
    replace h2 : m < D.g.put + 1 := h2
    by_cases e : m = D.g.put
    · exact ⟨k, (ps _ k).2 (Or.inl ⟨by rw [e], rfl⟩)⟩
    · obtain ⟨j, hj⟩ := h.pex m h1 (by omega)
      exact ⟨j, (ps _ j).2 (Or.inr ⟨by omega, hj⟩)⟩
  · intro m j hm
    rcases (ps _ j).1 hm with ⟨e, rfl⟩ | ⟨e, hj⟩
    · obtain rfl : m = D.g.put := by omega
      refine ⟨hk, ?_, ?_⟩
      · show (D.rq j).tk = true ↔ D.g.put < D.g.taken
        rw [ftk.1]; exact ⟨fun h => (by cases h), fun h => by omega⟩
      · show isR (ri.setD D.g.D D.g.put (D.rq j).dsc.inR D.g.put) (D.rq j)
        have e : ri.setD D.g.D D.g.put (D.rq j).dsc.inR D.g.put = (D.rq j).dsc.inR := if_pos rfl
        rw [e]
        exact ⟨rfl, rfl, rfl, rfl, rfl, rfl, ftk.2.symm, ⟨by show (0 : Int) ≤ 0; omega, by show (0 : Int) ≤ 255; omega⟩⟩
    · obtain ⟨a, b, c⟩ := h.pk m j hj
      refine ⟨a, b, ?_⟩
      show isR (ri.setD D.g.D D.g.put _ m) (D.rq j)
      have ee : ri.setD D.g.D D.g.put (D.rq k).dsc.inR m = D.g.D m := if_neg (by omega)
      rw [ee]; exact c
  · intro no no' j j' h1 h2 e
    rcases (ps no j).1 h1 with ⟨a, rfl⟩ | ⟨a, hj⟩ <;> rcases (ps no' j').1 h2 with ⟨b, rfl⟩ | ⟨b, hj'⟩
    · rw [a, b]
    · exact absurd hj' (by rw [h.pop no' j' j hj' hk vk e.symm]; exact un no')
    · exact absurd hj (by rw [h.pop no j j' hj hk vk e]; exact un no)
    · exact h.pid no no' j j' hj hj' e
  · intro no j j' h1 h2 h3 e
    rcases (ps no j).1 h1 with ⟨a, rfl⟩ | ⟨a, hj⟩
    · exact h.uniq hk h2 vk h3 e
    · exact h.pop no j j' hj h2 h3 e
  · intro j h1 h2 h3
    exact h.tkp j h1 h2 fun no hj => h3 no ((ps no j).2 (by
      by_cases e : no = (D.g.put : Int)
      · rw [e, hpn] at hj; cases hj
      · exact Or.inr ⟨e, hj⟩))
  · show x ∈ q'.l ↔ _
    rw [qm x, h.q x]
    constructor
    · rintro ⟨⟨j, h1, h2, h3, rfl⟩, hne⟩
      refine ⟨j, h1, h2, fun no hj => ?_, rfl⟩
      rcases (ps no j).1 hj with ⟨a, rfl⟩ | ⟨a, hj⟩
      · exact hne rfl
      · exact h3 no hj
    · rintro ⟨j, h1, h2, h3, rfl⟩
      refine ⟨⟨j, h1, h2, fun no hj => h3 no ((ps no j).2 (by
        by_cases e : no = (D.g.put : Int)
        · rw [e, hpn] at hj; cases hj
        · exact Or.inr ⟨e, hj⟩)), rfl⟩, fun e => ?_⟩
      have ei : (D.rq j).id = (D.rq k).id := congrArg od.Wt.id e
      have : j = k := h.uniq h1 hk h2 vk ei
      subst this
      exact h3 (D.g.put : Int) ((ps _ j).2 (Or.inl ⟨rfl, rfl⟩))
  · show D.g.put + 1 + q'.l.length ≤ D.nx; omega
/-- All that are started at once. -/
theorem DvC.start : ∀ (N : Nat) (D : Dv), DvC n sz G D → D.q.l.length = N → ∃ ids D', StS sz ids D D' ∧ ids.length ≤ N ∧ DvC n sz G D' ∧ D'.b = D.b ∧ D'.nx = D.nx ∧ D'.rq = D.rq ∧ D'.opn = D.opn ∧ D'.st = D.st
  | N, D, h, hN => by
    by_cases hf : D.g.put = D.g.reaped + sz
    · exact ⟨[], D, StS.full D h.gok hf, Nat.zero_le _, h, rfl, rfl, rfl, rfl, rfl⟩
    have hlt : D.g.put < D.g.reaped + sz := by have := h.gok.p; omega
    obtain ⟨x, f, q', ht⟩ := od.takeP_ex h.qok
    by_cases h0 : f = 0
    · subst h0
      obtain ⟨xm, qm, ql⟩ := take_mem h.qok ht
      obtain ⟨k, g', h1, h2, h3, h4, h5, h6, h7, h8, h9⟩ := h.st1 hlt ht
      have hc := h.cnt
      have hcap := h.cap
      match N, hN with
      | 0, hN => omega
      | M + 1, hN =>
        obtain ⟨ids, D', s1, s2, s3, s4, s5, s6, s7, s8⟩ := DvC.start M (D.stD k q' g') h9 (by show q'.l.length = M; omega)
        refine ⟨x.id :: ids, D', StS.goes D D' ids x q' k g' h.gok hlt h.qok ht h1 h2 (by rw [h5]; rfl) h6 (by rw [h7]) h8 (by omega) (by rw [h5]; exact h.wf h2) s1, by rw [List.length_cons]; omega, s3, s4, s5, s6, s7, s8⟩
    · obtain ⟨up, hn, ⟨hf5, rfl⟩ | ⟨hf0, -⟩⟩ := ht
      · exact ⟨[], D, StS.none D x f h.gok hlt h.qok ⟨up, hn, Or.inl ⟨hf5, rfl⟩⟩ h0, Nat.zero_le _, h, rfl, rfl, rfl, rfl, rfl⟩
      · exact absurd hf0 h0
/-- The device takes one. -/
theorem DvC.take (h : DvC n sz G D) (hlt : D.g.taken < D.g.put) : ∃ k c st', D.pst (D.g.taken : Int) = some k ∧ k < D.nx ∧ ((D.rq k).vo = false → po.Via n D.st (D.rq k).slot (D.rq k).gen (po.GiveB 2 3) c st') ∧
    ((D.rq k).vo = true → st' = D.st) ∧ KeepS n D.st st' ∧ DvC n sz G (D.tkD 0 ⟨D.g.put, D.g.taken + 1, D.g.reaped, D.g.D⟩ k st') := by
  have rl := h.gok.r
  obtain ⟨k, hps⟩ := h.pex D.g.taken rl hlt
  obtain ⟨hk, htk, his⟩ := h.pk _ k hps
  have ntk : (D.rq k).tk = false := by cases e : (D.rq k).tk with | false => rfl | true => exact absurd (htk.1 e) (by omega)
  have hP : ri.TakeP D.g (D.g.taken : Int) (D.g.D D.g.taken) 0 ⟨D.g.put, D.g.taken + 1, D.g.reaped, D.g.D⟩ := Or.inr ⟨hlt, rfl, rfl, rfl, rfl⟩
  have hok := (hP.ok h.gok).1
  have hfi := hP.fine h.gf
  have hex : ∃ c st', ((D.rq k).vo = false → po.Via n D.st (D.rq k).slot (D.rq k).gen (po.GiveB 2 3) c st') ∧ ((D.rq k).vo = true → st' = D.st) ∧ ((D.rq k).vo = false → ∃ i : Nat, i < n ∧ (D.rq k).slot = (i : Int) ∧ (D.st i).gen = (D.rq k).gen ∧ (D.rq k).frm + (D.rq k).len ≤ ((D.st i).bs.length : Nat) ∧ st' = po.updB D.st i { D.st i with owner := 3 }) := by
    cases hv : (D.rq k).vo with
    | true => exact ⟨0, D.st, fun h => (by cases h), fun _ => rfl, fun h => (by cases h)⟩
    | false =>
      have e2 : ownO (D.rq k) = 2 := by unfold ownO; rw [ntk]; rfl
      obtain ⟨c, st', hg⟩ := h.give_ex hk 3
      obtain ⟨i, hi, e3, e4, -, e5⟩ := h.give hk hv ⟨by omega, by omega, by rw [e2]; omega⟩ hg
      obtain ⟨i', hi', e3', -, e6, e7⟩ := h.own k hk hv
      obtain rfl : i' = i := by rw [e3] at e3'; omega
      rw [e2] at hg
      exact ⟨c, st', fun _ => hg, fun h => (by cases h), fun _ => ⟨i', hi, e3, e6, e7, e5⟩⟩
  obtain ⟨c, st', a1, a2, a3⟩ := hex
  refine ⟨k, c, st', hps, hk, a1, a2, ?_, ?_⟩
  · cases hv : (D.rq k).vo with
    | true => rw [a2 hv]; exact KeepS.refl _ _
    | false =>
      obtain ⟨i', b1, b2, -, -, e⟩ := a3 hv
      obtain ⟨i2, -, c2, c3, -, -⟩ := h.own k hk hv
      obtain rfl : i2 = i' := by omega
      rw [e]; exact KeepS.upd (by rw [c3]; exact ownO_0 _) (by omega)
  have est : (if (D.rq k).vo then D.st else st') = st' := by cases hv : (D.rq k).vo with | true => exact (a2 hv).symm | false => rfl
  have eD : D.tkD 0 ⟨D.g.put, D.g.taken + 1, D.g.reaped, D.g.D⟩ k st' = { D with g := ⟨D.g.put, D.g.taken + 1, D.g.reaped, D.g.D⟩, rq := updR D.rq k { D.rq k with tk := true }, st := st' } := by
    unfold Dv.tkD; rw [if_pos rfl, est]
  rw [eD]
  have sm : ∀ j, (updR D.rq k { D.rq k with tk := true } j).same (D.rq j) := fun j => updR_same (r := { D.rq k with tk := true }) ⟨rfl, rfl, rfl, rfl, rfl, rfl, rfl, rfl⟩ j
  have fl : ∀ j, (updR D.rq k { D.rq k with tk := true } j).vo = (D.rq j).vo ∧ (updR D.rq k { D.rq k with tk := true } j).fi = (D.rq j).fi ∧ (updR D.rq k { D.rq k with tk := true } j).tk = (if j = k then true else (D.rq j).tk) := fun j => by
    unfold updR
    by_cases e : j = k
    · rw [if_pos e, if_pos e]; subst e; exact ⟨rfl, rfl, rfl⟩
    · rw [if_neg e, if_neg e]; exact ⟨rfl, rfl, rfl⟩
  refine ⟨?_, h.gG, h.qok, hok, hfi, fun j hj => (sm j).good (h.rg j hj), fun z j => ?_, h.psl, h.pex, ?_, ?_, ?_, ?_, fun x => ?_, ?_, ?_, ?_, h.cnt, h.cap⟩
  · cases hv : (D.rq k).vo with
    | true => show po.POK n st' G; rw [a2 hv]; exact h.pok
    | false => obtain ⟨i', hi', -, -, -, e⟩ := a3 hv; show po.POK n st' G; rw [e]; exact pok_owner h.pok hi' (by omega)
  · show D.opn z = some j ↔ j < D.nx ∧ (updR _ _ _ j).id = z ∧ (updR _ _ _ j).vo = false
    rw [(sm j).id, (fl j).1]; exact h.opn z j
  · intro m j hm
    obtain ⟨a, b, c⟩ := h.pk m j hm
    refine ⟨a, ?_, c.of (sm j) (fl j).2.1⟩
    show (updR _ _ _ j).tk = true ↔ m < D.g.taken + 1
    rw [(fl j).2.2]
    by_cases e : j = k
    · rw [if_pos e]
      have : (m : Int) = (D.g.taken : Int) := h.pid _ _ j k hm hps (by rw [e])
      exact ⟨fun _ => by omega, fun _ => rfl⟩
    · rw [if_neg e, b]
      have : m ≠ D.g.taken := fun ee => e (by rw [ee, hps] at hm; exact (Option.some.inj hm).symm)
      omega
  · intro no no' j j' h1 h2 e
    replace e : (updR _ _ _ j).id = (updR _ _ _ j').id := e
    rw [(sm j).id, (sm j').id] at e; exact h.pid no no' j j' h1 h2 e
  · intro no j j' h1 h2 h3 e
    replace e : (updR _ _ _ j).id = (updR _ _ _ j').id := e
    replace h3 : (updR _ _ _ j').vo = false := h3
    rw [(sm j).id, (sm j').id] at e; rw [(fl j').1] at h3; exact h.pop no j j' h1 h2 h3 e
  · intro j h1 h2 h3
    replace h2 : (updR _ _ _ j).vo = false := h2
    rw [(fl j).1] at h2
    show (updR _ _ _ j).tk = false ∧ (updR _ _ _ j).fi = false
    have ne : j ≠ k := fun e => h3 _ (by rw [e]; exact hps)
    rw [(fl j).2.1, (fl j).2.2, if_neg ne]; exact h.tkp j h1 h2 h3
  · rw [h.q x]
    constructor
    · rintro ⟨j, h1, h2, h3, rfl⟩; exact ⟨j, h1, by show (updR _ _ _ j).vo = false; rw [(fl j).1]; exact h2, h3, (sm j).wt.symm⟩
    · rintro ⟨j, h1, h2, h3, rfl⟩
      replace h2 : (updR _ _ _ j).vo = false := h2
      rw [(fl j).1] at h2; exact ⟨j, h1, h2, h3, (sm j).wt⟩
  · intro j h1 h2
    replace h2 : (updR _ _ _ j).vo = false := h2
    rw [(fl j).1] at h2
    obtain ⟨i', f1, f2, f3, f4, f5⟩ := h.own j h1 h2
    show ∃ i : Nat, i < n ∧ (updR _ _ _ j).slot = (i : Int) ∧ (st' i).owner = ownO (updR _ _ _ j) ∧ (st' i).gen = (updR _ _ _ j).gen ∧ (updR _ _ _ j).frm + (updR _ _ _ j).len ≤ ((st' i).bs.length : Nat)
    by_cases e : j = k
    · subst e
      obtain ⟨i, b1, b2, b3, b4, b5⟩ := a3 h2
      refine ⟨i, b1, by rw [(sm j).slot]; exact b2, ?_, ?_, ?_⟩
      · rw [b5, po.updB_self]; unfold ownO; rw [(fl j).2.2, if_pos rfl]; rfl
      · rw [b5, po.updB_self, (sm j).gen]; exact b3
      · rw [b5, po.updB_self, (sm j).frm, (sm j).len]; exact b4
    · have eo : ownO (updR D.rq k { D.rq k with tk := true } j) = ownO (D.rq j) := by unfold ownO; rw [(fl j).2.2, if_neg e]
      have est' : st' i' = D.st i' := by
        cases hv : (D.rq k).vo with
        | true => rw [a2 hv]
        | false =>
          obtain ⟨i, b1, b2, b3, b4, b5⟩ := a3 hv
          rw [b5, po.updB_ne]
          intro ee
          exact e (h.one j k h1 hk h2 hv (by rw [f2, b2, ee]))
      exact ⟨i', f1, by rw [(sm j).slot]; exact f2, by rw [est', eo]; exact f3, by rw [est', (sm j).gen]; exact f4, by rw [est', (sm j).frm, (sm j).len]; exact f5⟩
  · intro j j' h1 h2 h3 h4 e
    replace h3 : (updR _ _ _ j).vo = false := h3
    replace h4 : (updR _ _ _ j').vo = false := h4
    replace e : (updR _ _ _ j).slot = (updR _ _ _ j').slot := e
    rw [(fl _).1] at h3 h4; rw [(sm j).slot, (sm j').slot] at e
    exact h.one j j' h1 h2 h3 h4 e
  · intro i' hi' ho
    show ∃ j, j < D.nx ∧ (updR _ _ _ j).vo = false ∧ (updR _ _ _ j).slot = (i' : Int)
    have key : ∃ j, j < D.nx ∧ (D.rq j).vo = false ∧ (D.rq j).slot = (i' : Int) := by
      cases hv : (D.rq k).vo with
      | true =>
        replace ho : (st' i').owner = 2 ∨ (st' i').owner = 3 := ho
        rw [a2 hv] at ho; exact h.who i' hi' ho
      | false =>
        obtain ⟨i, b1, b2, b3, b4, b5⟩ := a3 hv
        by_cases ee : i' = i
        · exact ⟨k, hk, hv, by rw [b2, ee]⟩
        · have ho : (st' i').owner = 2 ∨ (st' i').owner = 3 := ho
          rw [b5, po.updB_ne _ _ ee] at ho; exact h.who i' hi' ho
    obtain ⟨j, h1, h2, h3⟩ := key
    exact ⟨j, h1, by rw [(fl j).1]; exact h2, by rw [(sm j).slot]; exact h3⟩
/-- One is finished. -/
theorem DvC.fin (h : DvC n sz G D) {no stt f : Int} {g' : ri.RSt} (hP : ri.FinP D.g no stt f g') (bad : Bool) : g'.put = D.g.put ∧ ∃ k, (f = 0 → D.pst no = some k ∧ k < D.nx) ∧ DvC n sz G (D.finD f g' k bad) := by
  have hok := (hP.ok h.gok).1
  have hfi := hP.fine h.gf
  rcases hP with ⟨-, rfl, rfl⟩ | ⟨-, -, rfl, rfl⟩ | ⟨h1, h2, h3, h4, rfl, rfl⟩
  · exact ⟨rfl, 0, fun e => absurd e (by omega), by unfold Dv.finD; rw [if_neg (by omega)]; exact h⟩
  · exact ⟨rfl, 0, fun e => absurd e (by omega), by unfold Dv.finD; rw [if_neg (by omega)]; exact h⟩
  obtain ⟨m, rfl⟩ : ∃ m : Nat, no = (m : Int) := ⟨no.toNat, by omega⟩
  have tl := h.gok.t
  rw [Int.toNat_natCast] at h4 hok hfi ⊢
  obtain ⟨k, hps⟩ := h.pex m (by omega) (by omega)
  obtain ⟨hk, htk, his⟩ := h.pk _ k hps
  have tk : (D.rq k).tk = true := htk.2 (by omega)
  refine ⟨rfl, k, fun _ => ⟨hps, hk⟩, ?_⟩
  unfold Dv.finD
  rw [if_pos rfl]
  have sm : ∀ j, (updR D.rq k { D.rq k with fi := true, bd := bad } j).same (D.rq j) := fun j => updR_same (r := { D.rq k with fi := true, bd := bad }) ⟨rfl, rfl, rfl, rfl, rfl, rfl, rfl, rfl⟩ j
  have fl : ∀ j, (updR D.rq k { D.rq k with fi := true, bd := bad } j).vo = (D.rq j).vo ∧ (updR D.rq k { D.rq k with fi := true, bd := bad } j).tk = (D.rq j).tk ∧ (updR D.rq k { D.rq k with fi := true, bd := bad } j).fi = (if j = k then true else (D.rq j).fi) := fun j => by
    unfold updR
    by_cases e : j = k
    · rw [if_pos e, if_pos e]; subst e; exact ⟨rfl, rfl, rfl⟩
    · rw [if_neg e, if_neg e]; exact ⟨rfl, rfl, rfl⟩
  have oo : ∀ j, ownO (updR D.rq k { D.rq k with fi := true, bd := bad } j) = ownO (D.rq j) := fun j => by unfold ownO; rw [(fl j).2.1]
  refine ⟨h.pok, h.gG, h.qok, hok, hfi, fun j hj => (sm j).good (h.rg j hj), fun z j => ?_, h.psl, h.pex, ?_, ?_, ?_, ?_, fun x => ?_, ?_, ?_, ?_, h.cnt, h.cap⟩
  · show D.opn z = some j ↔ j < D.nx ∧ (updR _ _ _ j).id = z ∧ (updR _ _ _ j).vo = false
    rw [(sm j).id, (fl j).1]; exact h.opn z j
  · intro m' j hm
    obtain ⟨a, b, c⟩ := h.pk m' j hm
    refine ⟨a, by show (updR _ _ _ j).tk = true ↔ m' < D.g.taken; rw [(fl j).2.1]; exact b, ?_⟩
    show isR (ri.setD D.g.D m ((D.g.D m).fin stt) m') (updR _ _ _ j)
    by_cases e : m' = m
    · subst e
      rw [hps] at hm
      obtain rfl : k = j := Option.some.inj hm
      have e1 : ri.setD D.g.D m' ((D.g.D m').fin stt) m' = (D.g.D m').fin stt := if_pos rfl
      rw [e1]
      exact ⟨by rw [(sm k).op]; exact c.op, by rw [(sm k).id]; exact c.req, by rw [(sm k).slot]; exact c.slot, by rw [(sm k).gen]; exact c.gen, by rw [(sm k).frm]; exact c.frm, by rw [(sm k).len]; exact c.len, by rw [(fl k).2.2, if_pos rfl]; rfl, h1⟩
    · have e1 : ri.setD D.g.D m ((D.g.D m).fin stt) m' = D.g.D m' := if_neg e
      have ne : j ≠ k := fun ee => e (by have := h.pid _ _ j k hm hps (by rw [ee]); omega)
      rw [e1]
      exact c.of (sm j) (by rw [(fl j).2.2, if_neg ne])
  · intro a b j j' h1 h2 e
    replace e : (updR _ _ _ j).id = (updR _ _ _ j').id := e
    rw [(sm j).id, (sm j').id] at e; exact h.pid a b j j' h1 h2 e
  · intro a j j' h1 h2 h3 e
    replace e : (updR _ _ _ j).id = (updR _ _ _ j').id := e
    replace h3 : (updR _ _ _ j').vo = false := h3
    rw [(sm j).id, (sm j').id] at e; rw [(fl j').1] at h3; exact h.pop a j j' h1 h2 h3 e
  · intro j h1 h2 h3
    replace h2 : (updR _ _ _ j).vo = false := h2
    rw [(fl j).1] at h2
    show (updR _ _ _ j).tk = false ∧ (updR _ _ _ j).fi = false
    have ne : j ≠ k := fun e => h3 _ (by rw [e]; exact hps)
    rw [(fl j).2.1, (fl j).2.2, if_neg ne]; exact h.tkp j h1 h2 h3
  · rw [h.q x]
    constructor
    · rintro ⟨j, h1, h2, h3, rfl⟩; exact ⟨j, h1, by show (updR _ _ _ j).vo = false; rw [(fl j).1]; exact h2, h3, (sm j).wt.symm⟩
    · rintro ⟨j, h1, h2, h3, rfl⟩
      replace h2 : (updR _ _ _ j).vo = false := h2
      rw [(fl j).1] at h2; exact ⟨j, h1, h2, h3, (sm j).wt⟩
  · intro j h1 h2
    replace h2 : (updR _ _ _ j).vo = false := h2
    rw [(fl j).1] at h2
    obtain ⟨i', f1, f2, f3, f4, f5⟩ := h.own j h1 h2
    exact ⟨i', f1, (sm j).slot.trans f2, f3.trans (oo j).symm, f4.trans (sm j).gen.symm, by show (updR _ _ _ j).frm + (updR _ _ _ j).len ≤ _; rw [(sm j).frm, (sm j).len]; exact f5⟩
  · intro j j' h1 h2 h3 h4 e
    replace h3 : (updR _ _ _ j).vo = false := h3
    replace h4 : (updR _ _ _ j').vo = false := h4
    replace e : (updR _ _ _ j).slot = (updR _ _ _ j').slot := e
    rw [(fl _).1] at h3 h4; rw [(sm j).slot, (sm j').slot] at e
    exact h.one j j' h1 h2 h3 h4 e
  · intro i' hi' ho
    obtain ⟨j, h1, h2, h3⟩ := h.who i' hi' ho
    exact ⟨j, h1, by show (updR _ _ _ j).vo = false; rw [(fl j).1]; exact h2, (sm j).slot.trans h3⟩
/-- A descriptor leaves the ring, when its request has come out. -/
theorem DvC.gone (h : DvC n sz G D) (hlt : D.g.reaped < D.g.put) (hdn : (D.g.D D.g.reaped).dn = true) {k : Nat} (hps : D.pst (D.g.reaped : Int) = some k) (vk : (D.rq k).vo = true) :
    DvC n sz G { D with g := ⟨D.g.put, D.g.taken, D.g.reaped + 1, D.g.D⟩, pst := updK D.pst (D.g.reaped : Int) none } := by
  have hP : ri.ReapP D.g (D.g.D D.g.reaped) 0 ⟨D.g.put, D.g.taken, D.g.reaped + 1, D.g.D⟩ := Or.inr (Or.inr ⟨hlt, hdn, rfl, rfl, rfl⟩)
  have ps : ∀ no j, updK D.pst (D.g.reaped : Int) none no = some j ↔ no ≠ (D.g.reaped : Int) ∧ D.pst no = some j := fun no j => by
    unfold updK
    by_cases e : no = (D.g.reaped : Int)
    · rw [if_pos e]; exact ⟨fun h => (by cases h), fun h => absurd e h.1⟩
    · rw [if_neg e]; exact ⟨fun h => ⟨e, h⟩, fun h => h.2⟩
  have up : ∀ j, j < D.nx → (D.rq j).vo = false → ((∀ no, D.pst no ≠ some j) ↔ ∀ no, updK D.pst (D.g.reaped : Int) none no ≠ some j) := fun j hj vj =>
    ⟨fun hh no e => hh no ((ps no j).1 e).2, fun hh no e => hh no ((ps no j).2 ⟨fun ee => (by
      rw [ee, hps] at e
      obtain rfl : k = j := Option.some.inj e
      rw [vj] at vk; cases vk), e⟩)⟩
  refine ⟨h.pok, h.gG, h.qok, (hP.ok h.gok h.gf).1, hP.fine h.gf, h.rg, h.opn, ?_, ?_, ?_, ?_, ?_, ?_, fun x => ?_, h.own, h.one, h.who, h.cnt, h.cap⟩
  · intro no j hj
    obtain ⟨a, b⟩ := (ps no j).1 hj
    obtain ⟨m, h1, h2, h3⟩ := h.psl no j b
    exact ⟨m, h1, by show D.g.reaped + 1 ≤ m; omega, h3⟩
  · intro m h1 h2
    replace h1 : D.g.reaped + 1 ≤ m := h1
    obtain ⟨j, hj⟩ := h.pex m (by omega) h2
    exact ⟨j, (ps _ j).2 ⟨by omega, hj⟩⟩
  · intro m j hm; exact h.pk m j ((ps _ j).1 hm).2
  · intro no no' j j' h1 h2 e; exact h.pid no no' j j' ((ps _ _).1 h1).2 ((ps _ _).1 h2).2 e
  · intro no j j' h1 h2 h3 e; exact h.pop no j j' ((ps _ _).1 h1).2 h2 h3 e
  · intro j h1 h2 h3; exact h.tkp j h1 h2 ((up j h1 h2).2 h3)
  · rw [h.q x]
    exact ⟨fun ⟨j, h1, h2, h3, e⟩ => ⟨j, h1, h2, (up j h1 h2).1 h3, e⟩, fun ⟨j, h1, h2, h3, e⟩ => ⟨j, h1, h2, (up j h1 h2).2 h3, e⟩⟩
/-- The first leaves the ring, if it is done. -/
theorem DvC.reap (h : DvC n sz G D) {d : ri.Dsc} {f : Int} {g' : ri.RSt} (hP : ri.ReapP D.g d f g') : g'.put = D.g.put ∧ (f ≠ 0 → g' = D.g) ∧ ∃ k f2 c q' st',
    (f = 0 → D.pst (D.g.reaped : Int) = some k ∧ k < D.nx ∧ wfI (D.rq k).id ∧ ((D.rq k).vo = false → od.DropP D.q (D.rq k).id f2 q' ∧ po.Via n D.st (D.rq k).slot (D.rq k).gen (po.GiveB (ownO (D.rq k)) 1) c st')) ∧
    (f = 0 → d.req = (D.rq k).id ∧ 0 ≤ d.st ∧ d.st ≤ 255) ∧ DvC n sz G (D.rpD f g' k d.st q' st') := by
  rcases hP with ⟨h1, rfl, rfl, rfl⟩ | ⟨h1, h2, rfl, rfl, rfl⟩ | ⟨h1, h2, rfl, rfl, rfl⟩
  · exact ⟨rfl, fun _ => rfl, 0, 0, 0, D.q, D.st, fun e => absurd e (by omega), fun e => absurd e (by omega), by unfold Dv.rpD; rw [if_neg (by omega)]; exact h⟩
  · exact ⟨rfl, fun _ => rfl, 0, 0, 0, D.q, D.st, fun e => absurd e (by omega), fun e => absurd e (by omega), by unfold Dv.rpD; rw [if_neg (by omega)]; exact h⟩
  refine ⟨rfl, fun e => absurd rfl e, ?_⟩
  obtain ⟨k, hps⟩ := h.pex D.g.reaped (Nat.le_refl _) h1
  obtain ⟨hk, htk, his⟩ := h.pk _ k hps
  cases hv : (D.rq k).vo with
  | true =>
    refine ⟨k, 0, 0, D.q, D.st, fun _ => ⟨hps, hk, h.wf hk, fun e => (by rw [hv] at e; cases e)⟩, fun _ => ⟨his.req, his.st⟩, ?_⟩
    unfold Dv.rpD
    rw [if_pos rfl, if_pos hv]
    exact h.gone h1 h2 hps hv
  | false =>
    obtain ⟨f2, q', hq⟩ := od.dropP_ex D.q (D.rq k).id
    obtain ⟨c, st', hg⟩ := h.give_ex hk 1
    refine ⟨k, f2, c, q', st', fun _ => ⟨hps, hk, h.wf hk, fun _ => ⟨hq, hg⟩⟩, fun _ => ⟨his.req, his.st⟩, ?_⟩
    unfold Dv.rpD
    rw [if_pos rfl, if_neg (by rw [hv]; exact Bool.false_ne_true)]
    have ho := h.out hk hv hq hg
    have := (ho.gone (k := k) h1 h2 hps (by show (updR _ _ _ k).vo = true; rw [updR_self])).bk (D.b.ans (D.rq k).id (D.g.D D.g.reaped).st (D.rq k).bd)
    exact this
end
end
section
set_option linter.unusedVariables false
set_option maxRecDepth 100000
set_option maxHeartbeats 1000000
/-- What always holds of a device. -/
structure DvI (n sz : Nat) (G : Int) (D : Dv) : Prop where
  c : DvC n sz G D
  bok : D.b.ok
  lnk : ∀ i d, (∃ j, D.b.op j = some (i, d)) ↔ ∃ k, D.opn i = some k ∧ (D.rq k).dead = d
  cnu : cntO D.b.op + D.b.un.length ≤ D.nx
  uwf : ∀ f ∈ D.b.un, 0 ≤ f.id ∧ f.id ≤ 65535
section
variable {n sz : Nat} {G : Int} {D : Dv} {k : Nat}
theorem DvI.slot (h : DvI n sz G D) (i : Int) : (slotO D.b.op i).isSome = true ↔ ∃ k, D.opn i = some k := by
  constructor
  · intro e
    obtain ⟨j, hj⟩ := Option.isSome_iff_exists.1 e
    obtain ⟨_, d, hd⟩ := slot_some hj
    obtain ⟨k, h1, -⟩ := (h.lnk i d).1 ⟨j, hd⟩
    exact ⟨k, h1⟩
  · rintro ⟨k, hk⟩
    obtain ⟨j, hj⟩ := (h.lnk i (D.rq k).dead).2 ⟨k, hk, rfl⟩
    rw [h.bok.U.slot hj]; rfl
theorem DvI.slotK (h : DvI n sz G D) (hk : k < D.nx) (vk : (D.rq k).vo = false) : ∃ j, slotO D.b.op (D.rq k).id = some j :=
  Option.isSome_iff_exists.1 ((h.slot _).2 ⟨k, (h.c.opn _ k).2 ⟨hk, rfl, vk⟩⟩)
theorem outD_dead (q' : od.OSt) (st' : Nat → po.Buf) (j : Nat) : ((D.outD k q' st').rq j).same (D.rq j) := updR_same (r := { D.rq k with vo := true }) ⟨rfl, rfl, rfl, rfl, rfl, rfl, rfl, rfl⟩ j
theorem DvI.out (h : DvI n sz G D) (hk : k < D.nx) (vk : (D.rq k).vo = false) {fx : Ft} (hf : fx.id = (D.rq k).id) {f c : Int} {q' : od.OSt} {st' : Nat → po.Buf} (hq : od.DropP D.q (D.rq k).id f q') (hg : po.Via n D.st (D.rq k).slot (D.rq k).gen (po.GiveB (ownO (D.rq k)) 1) c st') :
    DvI n sz G (Dv.outD { D with b := D.b.out fx } k q' st') := by
  obtain ⟨j, hj⟩ := h.slotK hk vk
  rw [← hf] at hj
  have eb : D.b.out fx = { D.b with op := updO D.b.op j none, un := D.b.un ++ [fx] } := Bk.out_some hj
  obtain ⟨c1, c2, -, -⟩ := cnt_out hj
  obtain ⟨_, d0, hd0⟩ := slot_some hj
  refine ⟨(h.c.out hk vk hq hg).bk _, h.bok.out fx, fun i d => ?_, ?_, ?_⟩
  · show (∃ j, (D.b.out fx).op j = some (i, d)) ↔ ∃ k', updK D.opn (D.rq k).id none i = some k' ∧ (updR D.rq k _ k').dead = d
    rw [eb]
    show (∃ j', updO D.b.op j none j' = some (i, d)) ↔ _
    constructor
    · rintro ⟨j', hj'⟩
      have ne : j' ≠ j := fun e => by rw [e, updO_self] at hj'; cases hj'
      rw [updO_ne _ _ ne] at hj'
      have ni : i ≠ (D.rq k).id := fun e => ne (h.bok.U.uq j' j _ _ hj' hd0 (e.trans hf.symm))
      obtain ⟨k', h1, h2⟩ := (h.lnk i d).1 ⟨j', hj'⟩
      exact ⟨k', by unfold updK; rw [if_neg ni]; exact h1, (outD_dead q' st' k').dead.trans h2⟩
    · rintro ⟨k', h1, h2⟩
      unfold updK at h1
      by_cases ni : i = (D.rq k).id
      · rw [if_pos ni] at h1; cases h1
      · rw [if_neg ni] at h1
        obtain ⟨j', hj'⟩ := (h.lnk i d).2 ⟨k', h1, (outD_dead (D := D) (k := k) q' st' k').dead.symm.trans h2⟩
        refine ⟨j', ?_⟩
        rw [updO_ne]
        · exact hj'
        · intro e
          rw [e, hd0] at hj'
          injection hj' with hj'
          injection hj' with e1 e2
          exact ni (e1.symm.trans hf)
  · have := h.cnu
    show cntO (D.b.out fx).op + (D.b.out fx).un.length ≤ D.nx
    rw [c2, List.length_append]
    show _ + (_ + 1) ≤ _
    omega
  · show ∀ f ∈ (D.b.out fx).un, _
    rw [c2]
    intro g hg
    rcases List.mem_append.1 hg with hg | hg
    · exact h.uwf g hg
    · rw [List.mem_singleton.1 hg, hf]; exact (h.c.rg k hk).wt.1
theorem DvI.can (h : DvI n sz G D) (id : Int) : ∃ k f c q' st', (outA D.b id = 0 → D.opn id = some k ∧ k < D.nx ∧ (D.rq k).id = id ∧ od.DropP D.q id f q' ∧ po.Via n D.st (D.rq k).slot (D.rq k).gen (po.GiveB (ownO (D.rq k)) 1) c st') ∧ DvI n sz G (D.canD id k q' st') ∧
    KeepS n D.st (D.canD id k q' st').st := by
  by_cases h0 : outA D.b id = 0
  · have hs : (slotO D.b.op id).isSome = true := by
      unfold outA at h0
      cases e : (slotO D.b.op id).isSome with
      | true => rfl
      | false => rw [e] at h0; simp at h0
    obtain ⟨k, hk⟩ := (h.slot id).1 hs
    obtain ⟨h1, h2, h3⟩ := (h.c.opn id k).1 hk
    obtain ⟨f, q', hq⟩ := od.dropP_ex D.q id
    obtain ⟨c, st', hg⟩ := h.c.give_ex h1 1
    refine ⟨k, f, c, q', st', fun _ => ⟨hk, h1, h2, hq, hg⟩, ?_, ?_⟩
    · unfold Dv.canD; rw [if_pos h0]
      exact h.out h1 h3 h2.symm (by rw [h2]; exact hq) hg
    · obtain ⟨i', -, -, eo, -, e⟩ := h.c.give h1 h3 ⟨by omega, by omega, ownO_ne _⟩ hg
      unfold Dv.canD; rw [if_pos h0]
      show KeepS n D.st st'
      rw [e]; exact KeepS.upd (by rw [eo]; exact ownO_0 _) (by omega)
  · exact ⟨0, 0, 0, D.q, D.st, fun e => absurd e h0, by unfold Dv.canD; rw [if_neg h0]; exact h, by unfold Dv.canD; rw [if_neg h0]; exact KeepS.refl _ _⟩
theorem DvI.gone (h : DvI n sz G D) (hlt : D.g.reaped < D.g.put) (hdn : (D.g.D D.g.reaped).dn = true) {k : Nat} (hps : D.pst (D.g.reaped : Int) = some k) (vk : (D.rq k).vo = true) :
    DvI n sz G { D with g := ⟨D.g.put, D.g.taken, D.g.reaped + 1, D.g.D⟩, pst := updK D.pst (D.g.reaped : Int) none } := ⟨h.c.gone hlt hdn hps vk, h.bok, h.lnk, h.cnu, h.uwf⟩
/-- What comes out as the first leaves the ring. -/
theorem DvI.reap (h : DvI n sz G D) {d : ri.Dsc} {f : Int} {g' : ri.RSt} (hP : ri.ReapP D.g d f g') : g'.put = D.g.put ∧ (f ≠ 0 → g' = D.g) ∧ ∃ k f2 c q' st',
    (f = 0 → D.pst (D.g.reaped : Int) = some k ∧ k < D.nx ∧ wfI (D.rq k).id ∧ ((D.rq k).vo = false → od.DropP D.q (D.rq k).id f2 q' ∧ po.Via n D.st (D.rq k).slot (D.rq k).gen (po.GiveB (ownO (D.rq k)) 1) c st')) ∧
    (f = 0 → d.req = (D.rq k).id ∧ 0 ≤ d.st ∧ d.st ≤ 255) ∧ DvI n sz G (D.rpD f g' k d.st q' st') ∧ KeepS n D.st (D.rpD f g' k d.st q' st').st := by
  rcases hP with ⟨h1, rfl, rfl, rfl⟩ | ⟨h1, h2, rfl, rfl, rfl⟩ | ⟨h1, h2, rfl, rfl, rfl⟩
  · have e : D.rpD 5 D.g 0 ri.dZ.st D.q D.st = D := by unfold Dv.rpD; rw [if_neg (by omega)]
    exact ⟨rfl, fun _ => rfl, 0, 0, 0, D.q, D.st, fun e => absurd e (by omega), fun e => absurd e (by omega), by rw [e]; exact h, by rw [e]; exact KeepS.refl _ _⟩
  · have e : D.rpD 10 D.g 0 ri.dZ.st D.q D.st = D := by unfold Dv.rpD; rw [if_neg (by omega)]
    exact ⟨rfl, fun _ => rfl, 0, 0, 0, D.q, D.st, fun e => absurd e (by omega), fun e => absurd e (by omega), by rw [e]; exact h, by rw [e]; exact KeepS.refl _ _⟩
  refine ⟨rfl, fun e => absurd rfl e, ?_⟩
  obtain ⟨k, hps⟩ := h.c.pex D.g.reaped (Nat.le_refl _) h1
  obtain ⟨hk, htk, his⟩ := h.c.pk _ k hps
  cases hv : (D.rq k).vo with
  | true =>
    have e : D.rpD 0 ⟨D.g.put, D.g.taken, D.g.reaped + 1, D.g.D⟩ k (D.g.D D.g.reaped).st D.q D.st = { D with g := ⟨D.g.put, D.g.taken, D.g.reaped + 1, D.g.D⟩, pst := updK D.pst (D.g.reaped : Int) none } := by
      unfold Dv.rpD; rw [if_pos rfl, if_pos hv]
    refine ⟨k, 0, 0, D.q, D.st, fun _ => ⟨hps, hk, h.c.wf hk, fun e => (by rw [hv] at e; cases e)⟩, fun _ => ⟨his.req, his.st⟩, ?_, ?_⟩
    · rw [e]; exact h.gone h1 h2 hps hv
    · rw [e]; exact KeepS.refl _ _
  | false =>
    obtain ⟨f2, q', hq⟩ := od.dropP_ex D.q (D.rq k).id
    obtain ⟨c, st', hg⟩ := h.c.give_ex hk 1
    have ea : D.b.ans (D.rq k).id (D.g.D D.g.reaped).st (D.rq k).bd = D.b.out (if (D.rq k).bd then ⟨(D.rq k).id, 2, 2⟩ else ⟨(D.rq k).id, 1, (D.g.D D.g.reaped).st⟩) := by
      unfold Bk.ans; rw [if_neg (by have := his.st; omega)]
    have e : D.rpD 0 ⟨D.g.put, D.g.taken, D.g.reaped + 1, D.g.D⟩ k (D.g.D D.g.reaped).st q' st' = { Dv.outD { D with b := D.b.out (if (D.rq k).bd then ⟨(D.rq k).id, 2, 2⟩ else ⟨(D.rq k).id, 1, (D.g.D D.g.reaped).st⟩) } k q' st' with g := ⟨D.g.put, D.g.taken, D.g.reaped + 1, D.g.D⟩, pst := updK D.pst (D.g.reaped : Int) none } := by
      unfold Dv.rpD; rw [if_pos rfl, if_neg (by rw [hv]; exact Bool.false_ne_true), ea]; rfl
    refine ⟨k, f2, c, q', st', fun _ => ⟨hps, hk, h.c.wf hk, fun _ => ⟨hq, hg⟩⟩, fun _ => ⟨his.req, his.st⟩, ?_, ?_⟩
    · rw [e]
      have ho := h.out hk hv (fx := (if (D.rq k).bd then ⟨(D.rq k).id, 2, 2⟩ else ⟨(D.rq k).id, 1, (D.g.D D.g.reaped).st⟩)) (by cases (D.rq k).bd <;> rfl) hq hg
      exact ho.gone (k := k) h1 h2 hps (by show (updR _ _ _ k).vo = true; rw [updR_self])
    · rw [e]
      obtain ⟨i', -, -, eo, -, e⟩ := h.c.give hk hv ⟨by omega, by omega, ownO_ne _⟩ hg
      show KeepS n D.st st'
      rw [e]; exact KeepS.upd (by rw [eo]; exact ownO_0 _) (by omega)
/-- What goes on as outcomes are told: who hasn't come out, and isn't open any more, leaves. -/
structure GoneP (n : Nat) (b' : Bk) (l : List Ft) (D D' : Dv) : Prop where
  b : D'.b = D.b
  nx : D'.nx = D.nx
  g : D'.g = D.g
  pst : D'.pst = D.pst
  rq : ∀ j, (D'.rq j).same (D.rq j) ∧ (D'.rq j).tk = (D.rq j).tk ∧ (D'.rq j).fi = (D.rq j).fi ∧ (D'.rq j).bd = (D.rq j).bd
  opn : ∀ i k, D'.opn i = some k ↔ D.opn i = some k ∧ ((slotO b'.op i).isSome = true ∨ ∀ f ∈ l, f.id ≠ i)
  st : KeepS n D.st D'.st
  vo : ∀ j, (D'.rq j).vo = false → (D.rq j).vo = false
theorem goS_ex (b' : Bk) : ∀ (l : List Ft) (D : Dv), DvC n sz G D → (∀ f ∈ l, wfI f.id) → ∃ D', GoS n b' l D D' ∧ DvC n sz G D' ∧ GoneP n b' l D D'
  | [], D, h, _ => ⟨D, GoS.nil D, h, ⟨rfl, rfl, rfl, rfl, fun _ => ⟨Rq.same.rfl' _, rfl, rfl, rfl⟩, fun i k => ⟨fun h => ⟨h, Or.inr fun f hf => (by cases hf)⟩, fun h => h.1⟩, KeepS.refl _ _, fun _ h => h⟩⟩
  | f :: l, D, h, hw => by
    have wf := hw f List.mem_cons_self
    have hw' : ∀ f ∈ l, wfI f.id := fun g hg => hw g (List.mem_cons_of_mem _ hg)
    by_cases hst : (slotO b'.op f.id).isSome = true ∨ D.opn f.id = none
    · obtain ⟨D', s1, s2, s3⟩ := goS_ex b' l D h hw'
      refine ⟨D', GoS.still f l D D' wf hst (fun k hk => ((h.opn _ k).1 hk).1) s1, s2, ⟨s3.b, s3.nx, s3.g, s3.pst, s3.rq, fun i k => ?_, s3.st, s3.vo⟩⟩
      rw [s3.opn i k]
      constructor
      · rintro ⟨a, b⟩
        refine ⟨a, ?_⟩
        rcases b with b | b
        · exact Or.inl b
        · rcases hst with hst | hst
          · by_cases e : f.id = i
            · exact Or.inl (by rw [← e]; exact hst)
            · exact Or.inr fun g hg => (List.mem_cons.1 hg).elim (fun e' => by rw [e']; exact e) (b g)
          · exact Or.inr fun g hg => (List.mem_cons.1 hg).elim (fun e' ee => by rw [e'] at ee; rw [ee, a] at hst; cases hst) (b g)
      · rintro ⟨a, b⟩
        exact ⟨a, b.imp id fun b g hg => b g (List.mem_cons_of_mem _ hg)⟩
    · have h1 : (slotO b'.op f.id).isSome = false := by cases e : (slotO b'.op f.id).isSome with | false => rfl | true => exact absurd (Or.inl e) hst
      obtain ⟨k, hk⟩ : ∃ k, D.opn f.id = some k := by
        cases e : D.opn f.id with
        | none => exact absurd (Or.inr e) hst
        | some k => exact ⟨k, rfl⟩
      obtain ⟨k1, k2, k3⟩ := (h.opn _ k).1 hk
      obtain ⟨f2, q', hq⟩ := od.dropP_ex D.q (D.rq k).id
      obtain ⟨c, st', hg⟩ := h.give_ex k1 1
      have ho := h.out k1 k3 hq hg
      obtain ⟨D', s1, s2, s3⟩ := goS_ex b' l (D.outD k q' st') ho hw'
      obtain ⟨i', -, -, eo, -, est⟩ := h.give k1 k3 ⟨by omega, by omega, ownO_ne _⟩ hg
      refine ⟨D', GoS.goes f l D D' k f2 c G q' st' wf h1 hk k1 k2 h.qok h.pok (by rw [← k2]; exact hq) hg s1, s2, ⟨s3.b, s3.nx, s3.g, s3.pst, fun j => ?_, fun i k' => ?_, ?_, fun j hj => ?_⟩⟩
      · obtain ⟨a, b, c, d⟩ := s3.rq j
        have e2 := outD_dead (D := D) (k := k) q' st' j
        have fl : ((D.outD k q' st').rq j).tk = (D.rq j).tk ∧ ((D.outD k q' st').rq j).fi = (D.rq j).fi ∧ ((D.outD k q' st').rq j).bd = (D.rq j).bd := by
          show (updR _ _ _ j).tk = _ ∧ (updR _ _ _ j).fi = _ ∧ (updR _ _ _ j).bd = _
          unfold updR
          by_cases e : j = k
          · rw [if_pos e]; subst e; exact ⟨rfl, rfl, rfl⟩
          · rw [if_neg e]; exact ⟨rfl, rfl, rfl⟩
        exact ⟨⟨a.id.trans e2.id, a.op.trans e2.op, a.dead.trans e2.dead, a.track.trans e2.track, a.slot.trans e2.slot, a.gen.trans e2.gen, a.frm.trans e2.frm, a.len.trans e2.len⟩, b.trans fl.1, c.trans fl.2.1, d.trans fl.2.2⟩
      · rw [s3.opn i k']
        show updK D.opn (D.rq k).id none i = some k' ∧ _ ↔ _
        rw [k2]
        unfold updK
        by_cases e : i = f.id
        · rw [if_pos e]
          constructor
          · rintro ⟨a, -⟩; cases a
          · rintro ⟨a, b⟩
            rcases b with b | b
            · rw [e, h1] at b; cases b
            · exact absurd e.symm (b f List.mem_cons_self)
        · rw [if_neg e]
          constructor
          · rintro ⟨a, b⟩
            exact ⟨a, b.imp id fun b g hg => (List.mem_cons.1 hg).elim (fun e' => by rw [e']; exact fun ee => e ee.symm) (b g)⟩
          · rintro ⟨a, b⟩
            exact ⟨a, b.imp id fun b g hg => b g (List.mem_cons_of_mem _ hg)⟩
      · refine KeepS.trans ?_ s3.st
        show KeepS n D.st st'
        rw [est]; exact KeepS.upd (by rw [eo]; exact ownO_0 _) (by omega)
      · have h1 : (updR D.rq k { D.rq k with vo := true } j).vo = false := s3.vo j hj
        unfold updR at h1
        by_cases e : j = k
        · rw [if_pos e] at h1; cases h1
        · rw [if_neg e] at h1; exact h1
theorem cnt_J' {op : Nat → Option (Int × Int)} (U : UqO op) (pos : ∀ k x, op k = some x → 0 ≤ x.1) : ∀ (m : Nat) (l : List Nat), l.length = m → l.Nodup → (∀ x ∈ l, ∃ k d, op k = some ((x : Int), d)) → cntO (opJ op l) + l.length = cntO op
  | 0, l, hl, _, _ => by
    obtain rfl := List.length_eq_zero_iff.1 hl
    rw [opJ_nil]; rfl
  | m + 1, l, hl, nd, hm => by
    rcases List.eq_nil_or_concat l with rfl | ⟨l, x, rfl⟩
    · cases hl
    rw [List.concat_eq_append] at *
    rw [List.length_append, List.length_singleton] at hl
    obtain ⟨n1, -, n3⟩ := List.nodup_append.1 nd
    have ih := cnt_J' U pos m l (by omega) n1 fun y hy => hm y (List.mem_append_left _ hy)
    obtain ⟨k, d, hk⟩ := hm x (List.mem_append_right _ (List.mem_singleton.2 rfl))
    have hx : x ∉ l := fun hx => n3 x hx x (List.mem_singleton.2 rfl) rfl
    have hJ : opJ op l k = some ((x : Int), d) := opJ_of hk (by simpa using hx)
    rw [← opJ_step U pos hk, List.length_append]
    have := cntO_del (U.lt k _ hk) hJ
    show cntO (updO (opJ op l) k none) + (l.length + 1) = _
    omega
theorem cnt_J {op : Nat → Option (Int × Int)} (U : UqO op) (pos : ∀ k x, op k = some x → 0 ≤ x.1) (l : List Nat) : l.Nodup → (∀ x ∈ l, ∃ k d, op k = some ((x : Int), d)) → cntO (opJ op l) + l.length = cntO op := cnt_J' U pos _ l rfl
/-- As the time comes. -/
theorem DvI.go (h : DvI n sz G D) {u : Int} (hu : 0 ≤ u) {o : List Ft} (ho : OutP D.b u o) : ∃ D', (∀ o', OutP D.b u o' → GoS n (D.b.gon u) o' { D with b := D.b.gon u } D') ∧ DvI n sz G D' ∧ GoneP n (D.b.gon u) o { D with b := D.b.gon u } D' ∧ (goA D.b.now u = 0 → o.length + cntO D'.b.op = cntO D.b.op + D.b.un.length ∧ D'.b.un = []) ∧ (goA D.b.now u ≠ 0 → o = []) := by
  by_cases hg : goA D.b.now u = 0
  · have ho2 := ho
    unfold OutP at ho2
    rw [if_pos hg] at ho2
    obtain ⟨l, hl, rfl⟩ := ho2
    have eop : (D.b.gon u).op = opF D.b u := by unfold Bk.gon; rw [if_pos hg]
    have eun : (D.b.gon u).un = [] := by unfold Bk.gon; rw [if_pos hg]
    have hid : ∀ f ∈ D.b.un ++ fLate l, 0 ≤ f.id ∧ f.id ≤ 65535 := fun f hf => by
      rcases List.mem_append.1 hf with hf | hf
      · exact h.uwf f hf
      · obtain ⟨x, hx, rfl⟩ := List.mem_map.1 hf
        obtain ⟨k, d, hk, -⟩ := (hl.mem x).1 hx
        exact ⟨(h.bok.bd k _ hk).1, (h.bok.bd k _ hk).2.1⟩
    obtain ⟨D', s1, s2, s3⟩ := goS_ex (D.b.gon u) (D.b.un ++ fLate l) { D with b := D.b.gon u } (h.c.bk _) (fun f hf => wf_small (by have := (hid f hf).1; omega) (by have := (hid f hf).2; omega))
    have bok' := h.bok.gon hu
    have hcnt : cntO (D.b.gon u).op + l.length = cntO D.b.op := by
      rw [eop, ← hl.opF h.bok]
      exact cnt_J h.bok.U (fun k x hk => (h.bok.bd k x hk).1) l hl.nd fun x hx => by obtain ⟨k, d, hk, -⟩ := (hl.mem x).1 hx; exact ⟨k, d, hk⟩
    have b1 : D'.b = D.b.gon u := s3.b
    refine ⟨D', fun o' ho' => by rw [OutP.uniq h.bok ho' ho]; exact s1, ⟨s2, by rw [b1]; exact bok', fun i d => ?_, ?_, ?_⟩, s3, fun _ => ⟨?_, by rw [b1]; exact eun⟩, fun e => absurd hg e⟩
    · rw [b1]
      constructor
      · rintro ⟨j, hj⟩
        have hs := bok'.U.slot hj
        rw [eop] at hj
        obtain ⟨a, b⟩ := opF_some.1 hj
        obtain ⟨k, h1, h2⟩ := (h.lnk i d).1 ⟨j, a⟩
        exact ⟨k, (s3.opn i k).2 ⟨h1, Or.inl (by rw [hs]; rfl)⟩, (s3.rq k).1.dead.trans h2⟩
      · rintro ⟨k, h1, h2⟩
        obtain ⟨a, b⟩ := (s3.opn i k).1 h1
        obtain ⟨j, hj⟩ := (h.lnk i d).2 ⟨k, a, (s3.rq k).1.dead.symm.trans h2⟩
        refine ⟨j, ?_⟩
        rw [eop]
        refine opF_some.2 ⟨hj, ?_⟩
        rcases Int.lt_or_le u (d - D.b.cost) with hlt | hle
        · exact hlt
        exfalso
        have h0 := (h.bok.bd j _ hj).1
        have ei : ((i.toNat : Nat) : Int) = i := Int.toNat_of_nonneg h0
        have hml : i.toNat ∈ l := (hl.mem i.toNat).2 ⟨j, d, by rw [ei]; exact hj, hle⟩
        rcases b with b | b
        · obtain ⟨j2, hj2⟩ := Option.isSome_iff_exists.1 b
          obtain ⟨_, d2, hd2⟩ := slot_some hj2
          rw [eop] at hd2
          obtain ⟨e1, e2⟩ := opF_some.1 hd2
          obtain rfl : j2 = j := h.bok.U.uq j2 j _ _ e1 hj rfl
          rw [hj] at e1
          injection e1 with e1
          injection e1 with _ e1
          replace e2 : u < d2 - D.b.cost := e2
          omega
        · exact b ⟨((i.toNat : Nat) : Int), 2, 1⟩ (List.mem_append_right _ (List.mem_map.2 ⟨i.toNat, hml, rfl⟩)) ei
    · have e1 : D'.nx = D.nx := s3.nx
      have := h.cnu
      rw [b1, eun, e1]; show _ + 0 ≤ _; omega
    · rw [b1, eun]; intro f hf; cases hf
    · rw [b1, List.length_append]; unfold fLate; rw [List.length_map]; omega
  · have ho2 := ho
    unfold OutP at ho2
    rw [if_neg hg] at ho2
    subst ho2
    have eb : D.b.gon u = D.b := by unfold Bk.gon; rw [if_neg hg]
    rw [eb]
    refine ⟨D, fun o' ho' => ?_, h, ⟨rfl, rfl, rfl, rfl, fun _ => ⟨Rq.same.rfl' _, rfl, rfl, rfl⟩, fun i k => ⟨fun h => ⟨h, Or.inr fun f hf => (by cases hf)⟩, fun h => h.1⟩, KeepS.refl _ _, fun _ h => h⟩, fun e => absurd e hg, fun _ => rfl⟩
    unfold OutP at ho'
    rw [if_neg hg] at ho'
    subst ho'
    exact GoS.nil D
theorem DvI.start (h : DvI n sz G D) : ∃ ids D', StS sz ids D D' ∧ ids.length ≤ 64 ∧ DvI n sz G D' ∧ D'.b = D.b ∧ D'.nx = D.nx ∧ D'.rq = D.rq ∧ D'.opn = D.opn ∧ D'.st = D.st := by
  obtain ⟨ids, D', h1, h2, h3, h4, h5, h6, h7, h8⟩ := h.c.start _ D rfl
  exact ⟨ids, D', h1, by have := h.c.qok.len; omega, ⟨h3, by rw [h4]; exact h.bok, by rw [h4, h6, h7]; exact h.lnk, by rw [h4, h5]; exact h.cnu, by rw [h4]; exact h.uwf⟩, h4, h5, h6, h7, h8⟩
theorem DvI.take (h : DvI n sz G D) (hlt : D.g.taken < D.g.put) : ∃ k c st', D.pst (D.g.taken : Int) = some k ∧ k < D.nx ∧ ((D.rq k).vo = false → po.Via n D.st (D.rq k).slot (D.rq k).gen (po.GiveB 2 3) c st') ∧
    ((D.rq k).vo = true → st' = D.st) ∧ KeepS n D.st st' ∧ DvI n sz G (D.tkD 0 ⟨D.g.put, D.g.taken + 1, D.g.reaped, D.g.D⟩ k st') := by
  obtain ⟨k, c, st', h1, h2, h3, h4, h5, h6⟩ := h.c.take hlt
  have e : ∀ j, ((D.tkD 0 ⟨D.g.put, D.g.taken + 1, D.g.reaped, D.g.D⟩ k st').rq j).same (D.rq j) := fun j => by
    unfold Dv.tkD; rw [if_pos rfl]; exact updR_same (r := { D.rq k with tk := true }) ⟨rfl, rfl, rfl, rfl, rfl, rfl, rfl, rfl⟩ j
  have e1 : (D.tkD 0 ⟨D.g.put, D.g.taken + 1, D.g.reaped, D.g.D⟩ k st').b = D.b := by unfold Dv.tkD; rw [if_pos rfl]
  have e2 : (D.tkD 0 ⟨D.g.put, D.g.taken + 1, D.g.reaped, D.g.D⟩ k st').opn = D.opn := by unfold Dv.tkD; rw [if_pos rfl]
  have e3 : (D.tkD 0 ⟨D.g.put, D.g.taken + 1, D.g.reaped, D.g.D⟩ k st').nx = D.nx := by unfold Dv.tkD; rw [if_pos rfl]
  exact ⟨k, c, st', h1, h2, h3, h4, h5, ⟨h6, by rw [e1]; exact h.bok, fun i d => by rw [e1, e2, h.lnk i d]; exact ⟨fun ⟨j, a, b⟩ => ⟨j, a, (e j).dead.trans b⟩, fun ⟨j, a, b⟩ => ⟨j, a, (e j).dead.symm.trans b⟩⟩, by rw [e1, e3]; exact h.cnu, by rw [e1]; exact h.uwf⟩⟩
theorem finD_same (f : Int) (g' : ri.RSt) (bad : Bool) : (D.finD f g' k bad).b = D.b ∧ (D.finD f g' k bad).opn = D.opn ∧ (D.finD f g' k bad).nx = D.nx ∧ (D.finD f g' k bad).st = D.st ∧ (D.finD f g' k bad).q = D.q ∧ (D.finD f g' k bad).pst = D.pst ∧ ∀ j, ((D.finD f g' k bad).rq j).same (D.rq j) ∧ ((D.finD f g' k bad).rq j).vo = (D.rq j).vo := by
  unfold Dv.finD
  by_cases e : f = 0
  · rw [if_pos e]
    refine ⟨rfl, rfl, rfl, rfl, rfl, rfl, fun j => ⟨updR_same (r := { D.rq k with fi := true, bd := bad }) ⟨rfl, rfl, rfl, rfl, rfl, rfl, rfl, rfl⟩ j, ?_⟩⟩
    show (updR _ _ _ j).vo = _
    unfold updR
    by_cases e : j = k
    · rw [if_pos e]; subst e; rfl
    · rw [if_neg e]
  · rw [if_neg e]; exact ⟨rfl, rfl, rfl, rfl, rfl, rfl, fun j => ⟨Rq.same.rfl' _, rfl⟩⟩
theorem DvI.fin (h : DvI n sz G D) {no stt f : Int} {g' : ri.RSt} (hP : ri.FinP D.g no stt f g') (bad : Bool) : g'.put = D.g.put ∧ ∃ k, (f = 0 → D.pst no = some k ∧ k < D.nx) ∧ DvI n sz G (D.finD f g' k bad) := by
  obtain ⟨h1, k, h2, h3⟩ := h.c.fin hP bad
  obtain ⟨e1, e2, e3, -, -, -, e4⟩ := finD_same (D := D) (k := k) f g' bad
  exact ⟨h1, k, h2, ⟨h3, by rw [e1]; exact h.bok, fun i d => by rw [e1, e2, h.lnk i d]; exact ⟨fun ⟨j, a, b⟩ => ⟨j, a, (e4 j).1.dead.trans b⟩, fun ⟨j, a, b⟩ => ⟨j, a, (e4 j).1.dead.symm.trans b⟩⟩, by rw [e1, e3]; exact h.cnu, by rw [e1]; exact h.uwf⟩⟩
/-- Bytes alone. -/
theorem DvI.bytes (h : DvI n sz G D) {st' : Nat → po.Buf} (hs : ∀ i, i < n → (st' i).owner = (D.st i).owner ∧ (st' i).gen = (D.st i).gen ∧ (st' i).bs.length = (D.st i).bs.length ∧ (st' i).refs = (D.st i).refs) : DvI n sz G { D with st := st' } := by
  have c := h.c
  refine ⟨⟨⟨c.pok.n1, c.pok.n2, c.pok.g, fun i hi => ?_⟩, c.gG, c.qok, c.gok, c.gf, c.rg, c.opn, c.psl, c.pex, c.pk, c.pid, c.pop, c.tkp, c.q, fun k h1 h2 => ?_, c.one, fun i hi ho => ?_, c.cnt, c.cap⟩, h.bok, h.lnk, h.cnu, h.uwf⟩
  · obtain ⟨a, b, d, e⟩ := hs i hi
    have := c.pok.b i hi
    unfold po.Buf.ok at this ⊢
    rw [a, b, d, e]; exact this
  · obtain ⟨i, f1, f2, f3, f4, f5⟩ := c.own k h1 h2
    obtain ⟨a, b, d, -⟩ := hs i f1
    exact ⟨i, f1, f2, a.trans f3, b.trans f4, by show _ ≤ (((st' i).bs.length : Nat) : Int); rw [d]; exact f5⟩
  · have ho : (st' i).owner = 2 ∨ (st' i).owner = 3 := ho
    rw [(hs i hi).1] at ho; exact c.who i hi ho
theorem wrB {b b' : po.Buf} {by' at' c : Int} {xs : List Int} (h : po.WriteB by' at' xs b c b') : b'.owner = b.owner ∧ b'.gen = b.gen ∧ b'.bs.length = b.bs.length ∧ b'.refs = b.refs := by
  rcases h with ⟨-, -, rfl⟩ | ⟨-, -, -, rfl⟩ | ⟨-, -, -, -, rfl⟩ | ⟨-, -, hf, -, rfl⟩
  · exact ⟨rfl, rfl, rfl, rfl⟩
  · exact ⟨rfl, rfl, rfl, rfl⟩
  · exact ⟨rfl, rfl, rfl, rfl⟩
  · refine ⟨rfl, rfl, ?_, rfl⟩
    unfold po.fits at hf
    show (b.bs.take at'.toNat ++ (xs ++ b.bs.drop (at'.toNat + xs.length))).length = _
    rw [List.length_append, List.length_append, List.length_take, List.length_drop]
    omega
/-- What is written. -/
theorem DvI.wr (h : DvI n sz G D) {no at' cw : Int} {xs : List Int} {st' : Nat → po.Buf} (hP : WrP n D no at' xs cw st') : DvI n sz G { D with st := st' } ∧ (∀ i, i < n → (st' i).owner = (D.st i).owner ∧ (st' i).gen = (D.st i).gen ∧ (st' i).bs.length = (D.st i).bs.length ∧ (st' i).refs = (D.st i).refs) ∧ ∀ i, i < n → (D.st i).owner ≠ 3 → (st' i).bs = (D.st i).bs := by
  have key : (∀ i, i < n → (st' i).owner = (D.st i).owner ∧ (st' i).gen = (D.st i).gen ∧ (st' i).bs.length = (D.st i).bs.length ∧ (st' i).refs = (D.st i).refs) ∧ ∀ i, i < n → (D.st i).owner ≠ 3 → (st' i).bs = (D.st i).bs := by
    rcases hP with ⟨-, -, rfl⟩ | ⟨k, hk, ⟨-, -, rfl⟩ | ⟨-, hv⟩⟩
    · exact ⟨fun i _ => ⟨rfl, rfl, rfl, rfl⟩, fun _ _ _ => rfl⟩
    · exact ⟨fun i _ => ⟨rfl, rfl, rfl, rfl⟩, fun _ _ _ => rfl⟩
    · rcases hv with ⟨-, -, rfl⟩ | ⟨i, b', hi, f1, f2, f3, hB, rfl⟩
      · exact ⟨fun i _ => ⟨rfl, rfl, rfl, rfl⟩, fun _ _ _ => rfl⟩
      · refine ⟨fun j hj => ?_, fun j hj ho => ?_⟩
        · by_cases e : j = i
          · subst e; rw [po.updB_self]; exact wrB hB
          · rw [po.updB_ne _ _ e]; exact ⟨rfl, rfl, rfl, rfl⟩
        · by_cases e : j = i
          · subst e; rw [po.updB_self]
            rcases hB with ⟨-, -, rfl⟩ | ⟨-, -, -, rfl⟩ | ⟨-, -, -, -, rfl⟩ | ⟨-, h3, -, -, rfl⟩
            · rfl
            · rfl
            · rfl
            · exact absurd h3 ho
          · rw [po.updB_ne _ _ e]
  exact ⟨h.bytes key.1, key.1, key.2⟩
theorem DvI.new {st : Nat → po.Buf} {c : Int} (ok : po.POK n st G) (hG : G < 4294967296) (hs : 1 ≤ sz ∧ sz ≤ 64) (hc : newA c = 0) (hown : ∀ i, i < n → (st i).owner ≠ 2 ∧ (st i).owner ≠ 3) : DvI n sz G (Dv.new st c) := by
  refine ⟨⟨ok, hG, od.OSt.new_ok, ri.RSt.new_ok hs.1 hs.2, ri.RSt.new_fine, fun k hk => absurd hk (Nat.not_lt_zero k), fun i k => ⟨fun h => (by cases h), fun h => absurd h.1 (Nat.not_lt_zero k)⟩, fun no k h => (by cases h), fun m _ h => absurd h (Nat.not_lt_zero m), fun m k h => (by cases h), fun no no' k k' h => (by cases h), fun no k k' h => (by cases h), fun k hk => absurd hk (Nat.not_lt_zero k), fun x => ⟨fun h => (by cases h), fun ⟨k, hk, _⟩ => absurd hk (Nat.not_lt_zero k)⟩, fun k hk => absurd hk (Nat.not_lt_zero k), fun k k' hk => absurd hk (Nat.not_lt_zero k), fun i hi ho => ?_, ?_, ?_⟩, bk_new_ok hc, fun i d => ⟨fun ⟨j, h⟩ => (by cases h), fun ⟨k, h, _⟩ => (by cases h)⟩, ?_, fun f hf => (by cases hf)⟩
  · rcases ho with ho | ho
    · exact absurd ho (hown i hi).1
    · exact absurd ho (hown i hi).2
  · show 0 + 0 ≤ 0; omega
  · show 0 ≤ 80000; omega
  · show cntO (fun _ => none) + 0 ≤ 0
    have : cntO (fun _ => none) = 0 := by kernel_rfl
    rw [this]; exact Nat.le_refl _
end
end
section
set_option linter.unusedVariables false
set_option maxRecDepth 100000
set_option maxHeartbeats 1000000
def Dv.posted (D : Dv) (id : Int) : Prop := ∃ i k, wfI i ∧ D.pst i = some k ∧ (D.rq k).id = id
/-- What Submit tells and does: z, c, o are what the pool tells of the buffer. -/
def SubP (n : Nat) (D : Dv) (z c o : Int) (r : Rq) (f : Int) (D' : Dv) : Prop :=
  (¬ mayR z c r ∧ f = 1 ∧ D' = D) ∨ (mayR z c r ∧ o ≠ 1 ∧ f = 8 ∧ D' = D) ∨ (mayR z c r ∧ o = 1 ∧ D.posted r.id ∧ f = 7 ∧ D' = D) ∨
  (mayR z c r ∧ o = 1 ∧ ¬ D.posted r.id ∧ ∃ q1 f1, od.AddP D.q r.wt f1 q1 ∧
    ((f1 ≠ 0 ∧ f = f1 ∧ D' = D) ∨ (f1 = 0 ∧ opnA D.b r.id r.dead ≠ 0 ∧ f = opnA D.b r.id r.dead ∧ D' = D) ∨
      (f1 = 0 ∧ opnA D.b r.id r.dead = 0 ∧ ∃ st', po.Via n D.st r.slot r.gen (po.GiveB 1 2) f st' ∧ D' = Dv.newR { D with q := q1, b := D.b.opn r.id r.dead, st := st' } r.id r)))
section
variable {n sz : Nat} {G : Int} {D D' : Dv} {k : Nat} {z c o f : Int} {r : Rq}
theorem subP_ex (n : Nat) (D : Dv) (z c o : Int) (r : Rq) : ∃ f D', SubP n D z c o r f D' := by
  by_cases h1 : mayR z c r
  · by_cases h2 : o = 1
    · by_cases h3 : D.posted r.id
      · exact ⟨_, _, Or.inr (Or.inr (Or.inl ⟨h1, h2, h3, rfl, rfl⟩))⟩
      · obtain ⟨f1, q1, ha⟩ := od.addP_ex D.q r.wt
        by_cases h4 : f1 = 0
        · by_cases h5 : opnA D.b r.id r.dead = 0
          · obtain ⟨f, st', hv⟩ := po.via_ex (n := n) (st := D.st) (x := r.slot) (g := r.gen) (po.give_b 1 2)
            exact ⟨f, _, Or.inr (Or.inr (Or.inr ⟨h1, h2, h3, q1, f1, ha, Or.inr (Or.inr ⟨h4, h5, st', hv, rfl⟩)⟩))⟩
          · exact ⟨_, _, Or.inr (Or.inr (Or.inr ⟨h1, h2, h3, q1, f1, ha, Or.inr (Or.inl ⟨h4, h5, rfl, rfl⟩)⟩))⟩
        · exact ⟨_, _, Or.inr (Or.inr (Or.inr ⟨h1, h2, h3, q1, f1, ha, Or.inl ⟨h4, rfl, rfl⟩⟩))⟩
    · exact ⟨_, _, Or.inr (Or.inl ⟨h1, h2, rfl, rfl⟩)⟩
  · exact ⟨_, _, Or.inl ⟨h1, rfl, rfl⟩⟩
theorem mayR_fit (h : mayR z c r) : c = 0 ∧ 0 ≤ r.frm ∧ 1 ≤ r.len ∧ r.frm + r.len ≤ z ∧ r.frm ≤ 65535 ∧ (0 ≤ r.op ∧ r.op ≤ 15) ∧ od.mayW r.wt := by
  obtain ⟨h1, h2, h3, h4, h5⟩ := h
  unfold fitB at h1
  have := of_decide_eq_true h1
  exact ⟨this.1, this.2.1, this.2.2.2.1, by omega, h2, ⟨h3, h4⟩, h5⟩
/-- Put in the queue, and dropped again. -/
theorem add_drop {q q1 q2 : od.OSt} {x : od.Wt} {f : Int} (ha : od.AddP q x 0 q1) (hd : od.DropP q1 x.id f q2) : q2 = q := by
  rcases ha with ⟨-, e, -⟩ | ⟨-, -, e, -⟩ | ⟨-, -, -, e, -⟩ | ⟨-, hn, -, -, rfl⟩
  · cases e
  · cases e
  · cases e
  rcases hd with ⟨hn2, -, -⟩ | ⟨i, y, h1, h2, -, rfl⟩
  · exact absurd rfl (hn2 x (List.mem_append_right _ (List.mem_singleton.2 rfl)))
  · have h1 : (q.l ++ [x])[i]? = some y := h1
    have hi : i = q.l.length := by
      rcases Nat.lt_or_ge i q.l.length with h | h
      · rw [List.getElem?_append_left h] at h1
        exact absurd h2 (hn y (List.mem_of_getElem? h1))
      · have := (List.getElem?_eq_some_iff.1 h1).1
        rw [List.length_append, List.length_singleton] at this
        omega
    subst hi
    show ({ l := (q.l ++ [x]).eraseIdx q.l.length, head := q.head, up := q.up } : od.OSt) = q
    have e : (q.l ++ [x]).eraseIdx q.l.length = q.l := by
      rw [List.eraseIdx_append_of_length_le (Nat.le_refl _), Nat.sub_self]; simp
    rw [e]
theorem DvI.sub_same (h : SubP n D z c o r f D') (hf : f ≠ 0) (hown : o = 1 → po.OwnerP n D.st r.slot r.gen o 0 0 ∨ ∃ rf oc, po.OwnerP n D.st r.slot r.gen o rf oc) : D' = D := by
  rcases h with ⟨-, -, e⟩ | ⟨-, -, -, e⟩ | ⟨-, -, -, -, e⟩ | ⟨-, h1, -, q1, f1, -, ⟨-, -, e⟩ | ⟨-, -, -, e⟩ | ⟨-, -, st', hv, -⟩⟩
  · exact e
  · exact e
  · exact e
  · exact e
  · exact e
  · exfalso
    apply hf
    obtain ⟨rf, oc, ho⟩ : ∃ rf oc, po.OwnerP n D.st r.slot r.gen o rf oc := (hown h1).elim (fun h => ⟨_, _, h⟩) id
    rcases ho with ⟨-, e, -, -⟩ | ⟨i, hi, e1, e2, e3, e4, -, -⟩
    · omega
    · rcases hv with ⟨hn, -, -⟩ | ⟨j, b', hj, f1, f2, f3, hB, -⟩
      · exact (hn ⟨⟨by omega, by omega⟩, by rw [e1, Int.toNat_natCast]; exact e2, by rw [e1, Int.toNat_natCast]; exact e3⟩).elim
      · obtain rfl : j = i := by omega
        rcases hB with ⟨hw, -, -⟩ | ⟨-, hne, -, -⟩ | ⟨-, -, rfl, -⟩
        · exact (hw ⟨⟨by omega, by omega⟩, ⟨by omega, by omega⟩, by omega⟩).elim
        · exact absurd (e4.symm.trans h1) hne
        · rfl
/-- Who is let in. -/
theorem DvI.newR (h : DvI n sz G D) (hcap : D.nx + 1 ≤ 80000) (hz : po.SizeP n D.st r.slot r.gen z c) {rf oc : Int} (ho : po.OwnerP n D.st r.slot r.gen 1 rf oc) (hm : mayR z c r) (hr : r.tk = false ∧ r.fi = false ∧ r.vo = false) (hp : ¬ D.posted r.id) {q1 : od.OSt} (ha : od.AddP D.q r.wt 0 q1) (hb : opnA D.b r.id r.dead = 0) {st' : Nat → po.Buf} (hv : po.Via n D.st r.slot r.gen (po.GiveB 1 2) f st') :
    f = 0 ∧ DvI n sz G (Dv.newR { D with q := q1, b := D.b.opn r.id r.dead, st := st' } r.id r) ∧ KeepS n D.st st' := by
  obtain ⟨rfl, m1, m2, m3, m4, m5, m6⟩ := mayR_fit hm
  rcases ho with ⟨-, e, -, -⟩ | ⟨i, hi, e1, e2, e3, e4, -, -⟩
  · cases e
  have hlen : z = ((D.st i).bs.length : Nat) := by
    rcases hz with ⟨-, -, e⟩ | ⟨j, hj, a, -, -, b, -⟩
    · cases e
    · obtain rfl : j = i := by omega
      exact b
  obtain ⟨rfl, rfl⟩ : f = 0 ∧ st' = po.updB D.st i { D.st i with owner := 2 } := by
    rcases hv with ⟨hn, -, -⟩ | ⟨j, b', hj, f1, f2, f3, hB, rfl⟩
    · exact (hn ⟨⟨by omega, by omega⟩, by rw [e1, Int.toNat_natCast]; exact e2, by rw [e1, Int.toNat_natCast]; exact e3⟩).elim
    · obtain rfl : j = i := by omega
      rcases hB with ⟨hw, -, -⟩ | ⟨-, hne, -, -⟩ | ⟨-, -, rfl, rfl⟩
      · exact (hw ⟨⟨by omega, by omega⟩, ⟨by omega, by omega⟩, by omega⟩).elim
      · exact absurd e4.symm hne
      · exact ⟨rfl, rfl⟩
  obtain ⟨q0, q2, q3⟩ : (∀ y ∈ D.q.l, y.id ≠ r.id) ∧ D.q.l.length ≠ 64 ∧ q1 = { D.q with l := D.q.l ++ [r.wt] } := by
    rcases ha with ⟨-, e, -⟩ | ⟨-, -, e, -⟩ | ⟨-, -, -, e, -⟩ | ⟨-, a, b, -, d⟩
    · cases e
    · cases e
    · cases e
    · exact ⟨a, b, d⟩
  have hq1 := ha.ok h.c.qok
  subst q3
  obtain ⟨b0, b1, b2, b3, b4, b5⟩ := opnA_0 hb
  obtain ⟨c1, c2, -, -⟩ := cnt_opn hb
  obtain ⟨x1, x2, x3⟩ := free_get b4
  have eb : D.b.opn r.id r.dead = { D.b with op := updO D.b.op (freeO D.b.op) (some (r.id, r.dead)) } := by unfold Bk.opn; rw [if_pos hb]
  have nopn : D.opn r.id = none := by
    cases e : D.opn r.id with
    | none => rfl
    | some k => have := (h.slot r.id).2 ⟨k, e⟩; rw [b3] at this; cases this
  have pk := h.c.pok.b i hi
  have good : r.good n G := ⟨m6, m5, ⟨by omega, by omega⟩, by rw [← e3]; exact pk.1, ⟨m1, m4⟩, ⟨m2, by have := pk.2.2.2; omega⟩⟩
  have eN : Dv.newR { D with q := { D.q with l := D.q.l ++ [r.wt] }, b := D.b.opn r.id r.dead, st := po.updB D.st i { D.st i with owner := 2 } } r.id r = ⟨po.updB D.st i { D.st i with owner := 2 }, { D.q with l := D.q.l ++ [r.wt] }, D.g, D.b.opn r.id r.dead, D.nx + 1, updR D.rq D.nx r, updK D.opn r.id (some D.nx), D.pst⟩ := rfl
  have slotNe : ∀ j, j < D.nx → (D.rq j).vo = false → (D.rq j).slot ≠ (i : Int) := fun j hj vj e => by
    obtain ⟨i', f1, f2, f3, -, -⟩ := h.c.own j hj vj
    obtain rfl : i' = i := by omega
    have := ownO_ne (D.rq j)
    rw [← f3, ← e4] at this; exact this rfl
  have rqN : updR D.rq D.nx r D.nx = r := updR_self _ _ _
  have rqO : ∀ j, j < D.nx → updR D.rq D.nx r j = D.rq j := fun j hj => updR_ne _ _ (by omega)
  have psk : ∀ no j, D.pst no = some j → j < D.nx ∧ (D.rq j).id ≠ r.id := fun no j hj => by
    obtain ⟨m, rfl, h1, h2⟩ := h.c.psl no j hj
    refine ⟨(h.c.pk m j hj).1, fun e => hp ⟨(m : Int), j, ?_, hj, e⟩⟩
    have := h.c.gok.m
    exact wf_small (by omega) (by omega)
  have psn : ∀ no, D.pst no ≠ some D.nx := fun no e => absurd (psk no _ e).1 (Nat.lt_irrefl _)
  refine ⟨rfl, ?_, ?_⟩
  · rw [eN]
    refine ⟨⟨pok_owner h.c.pok hi (by omega), h.c.gG, hq1, h.c.gok, h.c.gf, ?_, ?_, h.c.psl, h.c.pex, ?_, ?_, ?_, ?_, ?_, ?_, ?_, ?_, ?_, hcap⟩, by show Bk.ok (D.b.opn r.id r.dead); exact h.bok.opn _ _, ?_, ?_, ?_⟩
    · intro j hj
      replace hj : j < D.nx + 1 := hj
      show (updR D.rq D.nx r j).good n G
      by_cases e : j = D.nx
      · rw [e, rqN]; exact good
      · rw [rqO j (by omega)]; exact h.c.rg j (by omega)
    · intro y j
      show updK D.opn r.id (some D.nx) y = some j ↔ j < D.nx + 1 ∧ (updR D.rq D.nx r j).id = y ∧ (updR D.rq D.nx r j).vo = false
      unfold updK
      by_cases ey : y = r.id
      · rw [if_pos ey]
        constructor
        · intro e; obtain rfl : D.nx = j := Option.some.inj e; rw [rqN]; exact ⟨by omega, ey.symm, hr.2.2⟩
        · rintro ⟨a, b, d⟩
          by_cases e : j = D.nx
          · rw [e]
          · rw [rqO j (by omega)] at b d
            have := (h.c.opn y j).2 ⟨by omega, b, d⟩
            rw [ey, nopn] at this; cases this
      · rw [if_neg ey, h.c.opn y j]
        constructor
        · rintro ⟨a, b, d⟩; rw [rqO j a]; exact ⟨by omega, b, d⟩
        · rintro ⟨a, b, d⟩
          by_cases e : j = D.nx
          · rw [e, rqN] at b; exact absurd b.symm ey
          · rw [rqO j (by omega)] at b d; exact ⟨by omega, b, d⟩
    · intro m j hm
      obtain ⟨a, b, d⟩ := h.c.pk m j hm
      show j < D.nx + 1 ∧ ((updR D.rq D.nx r j).tk = true ↔ m < D.g.taken) ∧ isR (D.g.D m) (updR D.rq D.nx r j)
      rw [rqO j a]; exact ⟨by omega, b, d⟩
    · intro no no' j j' h1 h2 e
      replace e : (updR D.rq D.nx r j).id = (updR D.rq D.nx r j').id := e
      rw [rqO j (psk _ _ h1).1, rqO j' (psk _ _ h2).1] at e
      exact h.c.pid no no' j j' h1 h2 e
    · intro no j j' h1 h2 h3 e
      replace h2 : j' < D.nx + 1 := h2
      replace e : (updR D.rq D.nx r j).id = (updR D.rq D.nx r j').id := e
      replace h3 : (updR D.rq D.nx r j').vo = false := h3
      by_cases en : j' = D.nx
      · rw [rqO j (psk _ _ h1).1, en, rqN] at e; exact absurd e (psk _ _ h1).2
      · rw [rqO j (psk _ _ h1).1, rqO j' (by omega)] at e
        rw [rqO j' (by omega)] at h3
        exact h.c.pop no j j' h1 (by omega) h3 e
    · intro j h1 h2 h3
      replace h1 : j < D.nx + 1 := h1
      replace h2 : (updR D.rq D.nx r j).vo = false := h2
      show (updR D.rq D.nx r j).tk = false ∧ (updR D.rq D.nx r j).fi = false
      by_cases en : j = D.nx
      · rw [en, rqN]; exact ⟨hr.1, hr.2.1⟩
      · rw [rqO j (by omega)] at h2 ⊢; exact h.c.tkp j (by omega) h2 h3
    · intro x
      show x ∈ D.q.l ++ [r.wt] ↔ ∃ j, j < D.nx + 1 ∧ (updR D.rq D.nx r j).vo = false ∧ (∀ no, D.pst no ≠ some j) ∧ x = (updR D.rq D.nx r j).wt
      rw [List.mem_append, List.mem_singleton, h.c.q x]
      constructor
      · rintro (⟨j, h1, h2, h3, h4⟩ | rfl)
        · exact ⟨j, by omega, by rw [rqO j h1]; exact h2, h3, by rw [rqO j h1]; exact h4⟩
        · exact ⟨D.nx, by omega, by rw [rqN]; exact hr.2.2, psn, by rw [rqN]⟩
      · rintro ⟨j, h1, h2, h3, h4⟩
        by_cases en : j = D.nx
        · rw [en, rqN] at h4; exact Or.inr h4
        · rw [rqO j (by omega)] at h2 h4; exact Or.inl ⟨j, by omega, h2, h3, h4⟩
    · intro j h1 h2
      replace h1 : j < D.nx + 1 := h1
      replace h2 : (updR D.rq D.nx r j).vo = false := h2
      show ∃ i' : Nat, i' < n ∧ (updR D.rq D.nx r j).slot = (i' : Int) ∧ (po.updB D.st i { D.st i with owner := 2 } i').owner = ownO (updR D.rq D.nx r j) ∧ (po.updB D.st i { D.st i with owner := 2 } i').gen = (updR D.rq D.nx r j).gen ∧ (updR D.rq D.nx r j).frm + (updR D.rq D.nx r j).len ≤ ((po.updB D.st i { D.st i with owner := 2 } i').bs.length : Nat)
      by_cases en : j = D.nx
      · rw [en, rqN]
        refine ⟨i, hi, e1, ?_, ?_, ?_⟩
        · rw [po.updB_self]; unfold ownO; rw [hr.1]; rfl
        · rw [po.updB_self]; exact e3
        · rw [po.updB_self]; show _ ≤ (((D.st i).bs.length : Nat) : Int); rw [← hlen]; exact m3
      · rw [rqO j (by omega)] at h2 ⊢
        obtain ⟨i', f1, f2, f3, f4, f5⟩ := h.c.own j (by omega) h2
        have ne : i' ≠ i := fun e => slotNe j (by omega) h2 (by rw [f2, e])
        exact ⟨i', f1, f2, by rw [po.updB_ne _ _ ne]; exact f3, by rw [po.updB_ne _ _ ne]; exact f4, by rw [po.updB_ne _ _ ne]; exact f5⟩
    · intro j j' h1 h2 h3 h4 e
      replace h1 : j < D.nx + 1 := h1
      replace h2 : j' < D.nx + 1 := h2
      replace h3 : (updR D.rq D.nx r j).vo = false := h3
      replace h4 : (updR D.rq D.nx r j').vo = false := h4
      replace e : (updR D.rq D.nx r j).slot = (updR D.rq D.nx r j').slot := e
      by_cases a : j = D.nx <;> by_cases b : j' = D.nx
      · rw [a, b]
      · rw [rqO j' (by omega)] at h4 e; rw [a, rqN] at e
        exact absurd (e.symm.trans e1) (slotNe j' (by omega) h4)
      · rw [rqO j (by omega)] at h3 e; rw [b, rqN] at e
        exact absurd (e.trans e1) (slotNe j (by omega) h3)
      · rw [rqO j (by omega)] at h3 e; rw [rqO j' (by omega)] at h4 e
        exact h.c.one j j' (by omega) (by omega) h3 h4 e
    · intro i' hi' hw
      replace hw : (po.updB D.st i { D.st i with owner := 2 } i').owner = 2 ∨ (po.updB D.st i { D.st i with owner := 2 } i').owner = 3 := hw
      show ∃ j, j < D.nx + 1 ∧ (updR D.rq D.nx r j).vo = false ∧ (updR D.rq D.nx r j).slot = (i' : Int)
      by_cases e : i' = i
      · exact ⟨D.nx, by omega, by rw [rqN]; exact hr.2.2, by rw [rqN, e]; exact e1⟩
      · rw [po.updB_ne _ _ e] at hw
        obtain ⟨j, h1, h2, h3⟩ := h.c.who i' hi' hw
        exact ⟨j, by omega, by rw [rqO j h1]; exact h2, by rw [rqO j h1]; exact h3⟩
    · have := h.c.cnt
      show D.g.put + (D.q.l ++ [r.wt]).length ≤ D.nx + 1
      rw [List.length_append, List.length_singleton]; omega
    · intro y d
      show (∃ j, (D.b.opn r.id r.dead).op j = some (y, d)) ↔ ∃ j, updK D.opn r.id (some D.nx) y = some j ∧ (updR D.rq D.nx r j).dead = d
      rw [eb]
      show (∃ j, updO D.b.op (freeO D.b.op) (some (r.id, r.dead)) j = some (y, d)) ↔ _
      unfold updK
      by_cases ey : y = r.id
      · rw [if_pos ey]
        constructor
        · rintro ⟨j, hj⟩
          by_cases e : j = freeO D.b.op
          · rw [e, updO_self] at hj
            injection hj with hj
            injection hj with _ hj
            exact ⟨D.nx, rfl, by rw [rqN]; exact hj⟩
          · rw [updO_ne _ _ e] at hj
            have := h.bok.U.slot hj
            rw [ey, b3] at this; cases this
        · rintro ⟨j, hj, e⟩
          obtain rfl : D.nx = j := Option.some.inj hj
          rw [rqN] at e
          exact ⟨freeO D.b.op, by rw [updO_self, ey, e]⟩
      · rw [if_neg ey]
        constructor
        · rintro ⟨j, hj⟩
          by_cases e : j = freeO D.b.op
          · rw [e, updO_self] at hj
            injection hj with hj
            injection hj with hj _
            exact absurd hj.symm ey
          · rw [updO_ne _ _ e] at hj
            obtain ⟨k, h1, h2⟩ := (h.lnk y d).1 ⟨j, hj⟩
            exact ⟨k, h1, by rw [rqO k ((h.c.opn y k).1 h1).1]; exact h2⟩
        · rintro ⟨k, h1, h2⟩
          rw [rqO k ((h.c.opn y k).1 h1).1] at h2
          obtain ⟨j, hj⟩ := (h.lnk y d).2 ⟨k, h1, h2⟩
          exact ⟨j, by rw [updO_ne _ _ (fun e => by rw [e, x2] at hj; cases hj)]; exact hj⟩
    · have := h.cnu
      show cntO (D.b.opn r.id r.dead).op + (D.b.opn r.id r.dead).un.length ≤ D.nx + 1
      rw [c1, c2]; omega
    · show ∀ f ∈ (D.b.opn r.id r.dead).un, _
      rw [c2]; exact h.uwf
  · exact KeepS.upd e2 (by omega)
end
end
section
set_option linter.unusedVariables false
set_option maxRecDepth 100000
set_option maxHeartbeats 1000000
section
variable {n sz : Nat} {G : Int} {D D' : Dv} {k : Nat} {ids : List Int} {r : Rq} {f : Int}
theorem take_first {q q' : od.OSt} {x : od.Wt} {f : Int} (h : od.TakeP q x f q') (hf : f = 0) : ∀ y ∈ q.l, x.dead ≤ y.dead := by
  obtain ⟨up, hn, -⟩ := h
  have key : ∀ u, od.NearP q u q.l.length (some x) → ∀ y ∈ q.l, x.dead ≤ y.dead := fun u hu y hy => by
    have hc : od.cand q u x := hu.2.1
    rw [hc.1]; exact od.firstD_le hy
  rcases hn with ⟨-, -, -, e⟩ | ⟨a, -, -⟩ | ⟨-, a, -, -⟩
  · omega
  · exact key _ a
  · exact key _ a
/-- What Start leaves. -/
structure StF (sz : Nat) (ids : List Int) (D D' : Dv) : Prop where
  put : D'.g.put = D.g.put + ids.length
  taken : D'.g.taken = D.g.taken
  reaped : D'.g.reaped = D.g.reaped
  len : D'.q.l.length + ids.length = D.q.l.length
  full : D'.g.put = D'.g.reaped + sz ∨ D'.q.l = []
  sub : ∀ x ∈ D'.q.l, x ∈ D.q.l
  old : ∀ m, m < D.g.put → D'.g.D m = D.g.D m
  new : ∀ (j : Nat) id, ids[j]? = some id → (D'.g.D (D.g.put + j)).req = id ∧ (D'.g.D (D.g.put + j)).dn = false
  pst : ∀ no : Int, no < D.g.put → D'.pst no = D.pst no
  ord : ∀ F : Int → Int, (∀ x ∈ D.q.l, x.dead = F x.id) → ids.Pairwise (fun a b => F a ≤ F b) ∧ (∀ a ∈ ids, ∀ y ∈ D'.q.l, F a ≤ y.dead)
  mem : ∀ a ∈ ids, ∃ x ∈ D.q.l, x.id = a
theorem StS.facts (h : StS sz ids D D') : StF sz ids D D' := by
  induction h with
  | full D h1 h2 => exact ⟨rfl, rfl, rfl, rfl, Or.inl h2, fun _ h => h, fun _ _ => rfl, fun j id h => (by simp at h), fun _ _ => rfl, fun F hF => ⟨List.Pairwise.nil, fun a ha => (by cases ha)⟩, fun a ha => (by cases ha)⟩
  | none D x f h1 h2 h3 h4 h5 =>
    have e : D.q.l = [] := by
      obtain ⟨up, hn, ⟨-, -⟩ | ⟨e, -⟩⟩ := h4
      · rcases hn with ⟨a, -⟩ | ⟨-, -, e⟩ | ⟨-, -, -, e⟩
        · exact a
        · exact absurd e h5
        · exact absurd e h5
      · exact absurd e h5
    exact ⟨rfl, rfl, rfl, rfl, Or.inr e, fun _ h => h, fun _ _ => rfl, fun j id h => (by simp at h), fun _ _ => rfl, fun F hF => ⟨List.Pairwise.nil, fun a ha => (by cases ha)⟩, fun a ha => (by cases ha)⟩
  | goes D D' ids x q' k g' h1 h2 h3 h4 h5 h6 h7 h8 h9 h10 h11 h12 h13 ih =>
    have eg : g' = ⟨D.g.put + 1, D.g.taken, D.g.reaped, ri.setD D.g.D D.g.put (D.rq k).dsc.inR⟩ := by
      rcases h8 with ⟨-, -, e, -⟩ | ⟨-, -, -, e, -⟩ | ⟨-, -, -, -, e⟩
      · cases e
      · cases e
      · exact e
    subst eg
    obtain ⟨xm, qm, ql⟩ := take_mem h3 h4
    have p0 : D'.g.put = D.g.put + 1 + ids.length := ih.put
    have p3 : D'.q.l.length + ids.length = q'.l.length := ih.len
    have dn : D'.g.D D.g.put = (D.rq k).dsc.inR := (ih.old D.g.put (show D.g.put < D.g.put + 1 by omega)).trans (if_pos rfl)
    refine ⟨by rw [p0, List.length_cons]; omega, ih.taken, ih.reaped, by rw [List.length_cons]; omega, ih.full, fun y hy => ((qm y).1 (ih.sub y hy)).1, fun m hm => ?_, fun j id hj => ?_, fun no hno => ?_, fun F hF => ?_, fun a ha => ?_⟩
    · rw [ih.old m (show m < D.g.put + 1 by omega)]; exact if_neg (by omega)
    · cases j with
      | zero =>
        simp at hj
        rw [Nat.add_zero, dn]; exact ⟨h7.trans hj, rfl⟩
      | succ j =>
        have hj : ids[j]? = some id := by simpa using hj
        have := ih.new j id hj
        rw [show D.g.put + (j + 1) = D.g.put + 1 + j by omega]; exact this
    · rw [ih.pst no (show no < ((D.g.put + 1 : Nat) : Int) by omega)]
      exact if_neg (by omega)
    · obtain ⟨a, b⟩ := ih.ord F fun y hy => hF y ((qm y).1 hy).1
      have hx := hF x xm
      have fst := take_first h4 rfl
      refine ⟨List.pairwise_cons.2 ⟨fun y hy => ?_, a⟩, fun y hy z hz => ?_⟩
      · obtain ⟨z, hz, rfl⟩ := ih.mem y hy
        have hz : z ∈ D.q.l := ((qm z).1 hz).1
        have := fst z hz
        rw [← hx, ← hF z hz]; exact this
      · rcases List.mem_cons.1 hy with rfl | hy
        · rw [← hx]; exact fst z ((qm z).1 (ih.sub z hz)).1
        · exact b y hy z hz
    · rcases List.mem_cons.1 ha with rfl | ha
      · exact ⟨x, xm, rfl⟩
      · obtain ⟨z, hz, e⟩ := ih.mem a ha
        exact ⟨z, ((qm z).1 hz).1, e⟩
theorem AddP.zero {q : od.OSt} {x : od.Wt} (hm : od.mayW x) (hn : ∀ y ∈ q.l, y.id ≠ x.id) (hl : q.l.length ≠ 64) : od.AddP q x 0 { q with l := q.l ++ [x] } := Or.inr (Or.inr (Or.inr ⟨hm, hn, hl, rfl, rfl⟩))
/-- When a request is let in, and what it tells else. -/
theorem DvI.sub_ok (h : DvI n sz G D) (hcap : D.nx + 1 ≤ 80000) {i : Nat} (hi : i < n) (hs : r.slot = (i : Int)) (hg : r.gen = (D.st i).gen) (ho : (D.st i).owner = 1) (hm : mayR ((D.st i).bs.length : Nat) 0 r) (hr : r.tk = false ∧ r.fi = false ∧ r.vo = false) (hp : ¬ D.posted r.id) (hop : D.opn r.id = none) (hq : D.q.l.length < 64) (hc : cntO D.b.op < 64) (hd : D.b.now + D.b.cost < r.dead) :
    opnA D.b r.id r.dead = 0 ∧ ∃ st', st' = po.updB D.st i { D.st i with owner := 2 } ∧ SubP n D ((D.st i).bs.length : Nat) 0 1 r 0 (Dv.newR { D with q := { D.q with l := D.q.l ++ [r.wt] }, b := D.b.opn r.id r.dead, st := st' } r.id r) ∧ DvI n sz G (Dv.newR { D with q := { D.q with l := D.q.l ++ [r.wt] }, b := D.b.opn r.id r.dead, st := st' } r.id r) ∧ KeepS n D.st st' := by
  obtain ⟨-, m1, m2, m3, m4, m5, m6⟩ := mayR_fit hm
  obtain ⟨⟨i0, i1⟩, ⟨d0, d1⟩, t0, t1⟩ := m6
  replace i0 : 0 ≤ r.id := i0
  replace i1 : r.id ≤ 65535 := i1
  replace d1 : r.dead < 4611686018427387904 := d1
  have hsl : slotO D.b.op r.id = none := by
    cases e : slotO D.b.op r.id with
    | none => rfl
    | some j =>
      obtain ⟨k, hk⟩ := (h.slot r.id).1 (by rw [e]; rfl)
      rw [hop] at hk; cases hk
  have hA : opnA D.b r.id r.dead = 0 := by
    unfold opnA
    rw [if_neg (by omega), if_neg (by omega), if_neg (by rw [hsl]; simp), if_neg (by omega), if_neg (by omega)]
  have ha : od.AddP D.q r.wt 0 { D.q with l := D.q.l ++ [r.wt] } := AddP.zero ⟨⟨i0, i1⟩, ⟨d0, d1⟩, t0, t1⟩ (fun y hy e => by
    obtain ⟨k, k1, k2, k3, rfl⟩ := (h.c.q y).1 hy
    have := (h.c.opn r.id k).2 ⟨k1, e, k2⟩
    rw [hop] at this; cases this) (by omega)
  have hv : po.Via n D.st r.slot r.gen (po.GiveB 1 2) 0 (po.updB D.st i { D.st i with owner := 2 }) := Or.inr ⟨i, _, hi, hs, by omega, hg.symm, Or.inr (Or.inr ⟨⟨⟨by omega, by omega⟩, ⟨by omega, by omega⟩, by omega⟩, ho, rfl, rfl⟩), rfl⟩
  have hz : po.SizeP n D.st r.slot r.gen ((D.st i).bs.length : Nat) 0 := Or.inr ⟨i, hi, hs, by omega, hg.symm, rfl, rfl⟩
  have how : po.OwnerP n D.st r.slot r.gen 1 (D.st i).refs 0 := Or.inr ⟨i, hi, hs, by omega, hg.symm, ho.symm, rfl, rfl⟩
  obtain ⟨-, hI, hK⟩ := h.newR hcap hz how hm hr hp ha hA hv
  exact ⟨hA, _, rfl, Or.inr (Or.inr (Or.inr ⟨hm, rfl, hp, _, 0, ha, Or.inr (Or.inr ⟨rfl, hA, _, hv, rfl⟩)⟩)), hI, hK⟩
/-- A buffer that nobody open has is a task's. -/
theorem DvC.task (h : DvC n sz G D) {i : Nat} (hi : i < n) (h0 : (D.st i).owner ≠ 0) (hno : ∀ k, k < D.nx → (D.rq k).vo = false → (D.rq k).slot ≠ (i : Int)) : (D.st i).owner = 1 := by
  have := (h.pok.b i hi).2.1
  have h2 : ¬ ((D.st i).owner = 2 ∨ (D.st i).owner = 3) := fun e => by obtain ⟨k, h1, h2, h3⟩ := h.who i hi e; exact hno k h1 h2 h3
  omega
theorem DvI.none_open (h : DvI n sz G D) (hc : cntO D.b.op = 0) : ∀ k, k < D.nx → (D.rq k).vo = true := fun k hk => by
  cases e : (D.rq k).vo with
  | true => rfl
  | false =>
    obtain ⟨j, hj⟩ := h.slotK hk e
    obtain ⟨h1, d, hd⟩ := slot_some hj
    have := cntO_del h1 hd
    omega
theorem DvI.no_wait (h : DvI n sz G D) (hc : cntO D.b.op = 0) : D.q.l = [] := by
  rcases List.eq_nil_or_concat D.q.l with e | ⟨l, x, e⟩
  · exact e
  · have hx : x ∈ D.q.l := by rw [e]; simp
    obtain ⟨k, h1, h2, -, -⟩ := (h.c.q x).1 hx
    rw [h.none_open hc k h1] at h2; cases h2
theorem DvI.no_opn (h : DvI n sz G D) (hc : cntO D.b.op = 0) (i : Int) : D.opn i = none := by
  cases e : D.opn i with
  | none => rfl
  | some k =>
    obtain ⟨h1, h2, h3⟩ := (h.c.opn i k).1 e
    rw [h.none_open hc k h1] at h3; cases h3
end
end
end Go.Proofs.YtdjhpdacglojaaaGreat
