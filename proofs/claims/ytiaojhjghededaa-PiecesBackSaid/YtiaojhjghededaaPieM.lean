/- Layer 8, plain: pieces; whether a list may be; what is gathered and scattered. Nothing of one law. -/
import Derived.Test.YtiaojhjghededaaPoolP
namespace Go.Proofs.Ytiaojhjghededaa
open Go.RowKit
set_option linter.unusedVariables false
/-- A piece: a buffer's number and generation, where it begins, how long it is. -/
structure Pc where
  s : Int
  g : Int
  f : Int
  m : Int
deriving DecidableEq
def Pc.cells (p : Pc) : Array Value := #[.int .i64 p.s, .int .u64 p.g, .int .i64 p.f, .int .i64 p.m]
def Pc.v (p : Pc) : Value := .agg p.cells
def Pc.wf (p : Pc) : Prop := (-9223372036854775808 ≤ p.s ∧ p.s ≤ 9223372036854775807) ∧ (0 ≤ p.g ∧ p.g ≤ 18446744073709551615) ∧ (-9223372036854775808 ≤ p.f ∧ p.f ≤ 9223372036854775807) ∧ (-9223372036854775808 ≤ p.m ∧ p.m ≤ 9223372036854775807)
/-- Where a list of pieces lies. -/
def RdP (w : World) (A : Option Addr) (ps : List Pc) : Prop := ∀ i p, ps[i]? = some p → ∃ g off, A = some ⟨g, off, none⟩ ∧ g < w.heap.size ∧ w.cell? ⟨g, off + i * 4, none⟩ = some (.int .i64 p.s) ∧ w.cell? ⟨g, off + i * 4 + 1, none⟩ = some (.int .u64 p.g) ∧ w.cell? ⟨g, off + i * 4 + 2, none⟩ = some (.int .i64 p.f) ∧ w.cell? ⟨g, off + i * 4 + 3, none⟩ = some (.int .i64 p.m)
theorem RdP.same {w w' : World} {A : Option Addr} {ps : List Pc} (h : RdP w A ps) (hs : w.heap.size ≤ w'.heap.size) (hk : ∀ g o, A = some ⟨g, o, none⟩ → w'.heap[g]? = w.heap[g]?) : RdP w' A ps := fun i p hp => by
  obtain ⟨g, o, e, h1, h2, h3, h4, h5⟩ := h i p hp
  have hc : ∀ k, w'.cell? ⟨g, k, none⟩ = w.cell? ⟨g, k, none⟩ := fun k => World.cell?_of_block (w := w) (hk g o e)
  exact ⟨g, o, e, Nat.lt_of_lt_of_le h1 hs, (hc _).trans h2, (hc _).trans h3, (hc _).trans h4, (hc _).trans h5⟩
theorem RdP.on {w w' : World} {A : Option Addr} {ps : List Pc} (h : RdP w A ps) (hb : Below w.heap.size w w') : RdP w' A ps := fun i p hp => by
  obtain ⟨g, o, e, h1, h2, h3, h4, h5⟩ := h i p hp
  have hc : ∀ k, w'.cell? ⟨g, k, none⟩ = w.cell? ⟨g, k, none⟩ := fun k => World.cell?_of_block (w := w) (hb.block g h1)
  exact ⟨g, o, e, Nat.lt_of_lt_of_le h1 hb.size, (hc _).trans h2, (hc _).trans h3, (hc _).trans h4, (hc _).trans h5⟩
/-- The size of a live buffer; else nothing. -/
def szB (n : Nat) (st : Nat → Buf) (s g : Int) : Option Nat := if 0 ≤ s ∧ s < n ∧ (st s.toNat).owner ≠ 0 ∧ (st s.toNat).gen = g then some (st s.toNat).bs.length else none
theorem szB_live {n : Nat} {st : Nat → Buf} {s g : Int} {z : Nat} (h : szB n st s g = some z) : ∃ i : Nat, i < n ∧ s = (i : Int) ∧ (st i).owner ≠ 0 ∧ (st i).gen = g ∧ z = (st i).bs.length := by
  unfold szB at h
  split at h
  · next hh =>
    injection h with h
    exact ⟨s.toNat, by omega, by omega, hh.2.2.1, hh.2.2.2, h.symm⟩
  · cases h
theorem sizeP_of (n : Nat) (st : Nat → Buf) (s g : Int) : SizeP n st s g (match szB n st s g with | none => 0 | some z => (z : Int)) (match szB n st s g with | none => 3 | some _ => 0) := by
  cases h : szB n st s g with
  | none =>
    refine Or.inl ⟨fun hl => ?_, rfl, rfl⟩
    obtain ⟨⟨h1, h2⟩, h3, h4⟩ := hl
    unfold szB at h
    rw [if_pos ⟨h1, h2, h3, h4⟩] at h
    cases h
  | some z =>
    obtain ⟨i, h1, h2, h3, h4, h5⟩ := szB_live h
    exact Or.inr ⟨i, h1, h2, h3, h4, by rw [h5], rfl⟩
/-- Does a piece fit? -/
def fitP (n : Nat) (st : Nat → Buf) (p : Pc) : Bool := match szB n st p.s p.g with | none => false | some z => decide (0 ≤ p.f ∧ p.f ≤ z ∧ 1 ≤ p.m ∧ p.m ≤ z - p.f)
/-- Has it a byte in common with another one? -/
def meetP (c o : Pc) : Bool := decide (o.s = c.s ∧ o.g = c.g ∧ o.f < c.f + c.m ∧ c.f < o.f + o.m)
def mayG (n : Nat) (st : Nat → Buf) : List Pc → List Pc → Bool
  | _, [] => true
  | pre, c :: r => (fitP n st c && !(pre.any (meetP c))) && mayG n st (pre ++ [c]) r
def mayL (n : Nat) (st : Nat → Buf) (ps : List Pc) : Bool := decide (1 ≤ ps.length ∧ ps.length ≤ 16) && mayG n st [] ps
theorem fitP_bd {n : Nat} {st : Nat → Buf} {p : Pc} {G : Int} (ok : POK n st G) (h : fitP n st p = true) : 0 ≤ p.f ∧ 1 ≤ p.m ∧ p.f + p.m ≤ 65536 ∧ ∃ i : Nat, i < n ∧ p.s = (i : Int) ∧ (st i).owner ≠ 0 ∧ (st i).gen = p.g ∧ p.f + p.m ≤ (st i).bs.length := by
  unfold fitP at h
  cases e : szB n st p.s p.g with
  | none => rw [e] at h; cases h
  | some z =>
    rw [e] at h
    have h := of_decide_eq_true h
    obtain ⟨i, h1, h2, h3, h4, h5⟩ := szB_live e
    have := (ok.b i h1).2.2.2
    exact ⟨h.1, h.2.2.1, by omega, i, h1, h2, h3, h4, by omega⟩
/-- What a piece tells of the buffers. -/
def cutP (st : Nat → Buf) (p : Pc) : List Int := ((st p.s.toNat).bs.drop p.f.toNat).take p.m.toNat
def gatP (st : Nat → Buf) (ps : List Pc) : List Int := ps.flatMap (cutP st)
/-- Bytes laid over others. -/
def lay (bs : List Int) (f : Nat) (xs : List Int) : List Int := bs.take f ++ (xs ++ bs.drop (f + xs.length))
def putP (st : Nat → Buf) (p : Pc) (xs : List Int) : Nat → Buf := updB st p.s.toNat { st p.s.toNat with bs := lay (st p.s.toNat).bs p.f.toNat xs }
def scaP : List Pc → List Int → (Nat → Buf) → (Nat → Buf)
  | [], _, st => st
  | p :: ps, b, st => if b = [] then st else scaP ps (b.drop p.m.toNat) (putP st p (b.take p.m.toNat))
theorem lay_len (bs : List Int) (f : Nat) (xs : List Int) (h : f + xs.length ≤ bs.length) : (lay bs f xs).length = bs.length := by
  unfold lay
  rw [List.length_append, List.length_append, List.length_take, List.length_drop]
  omega
theorem lay_get (bs : List Int) (f : Nat) (xs : List Int) (h : f + xs.length ≤ bs.length) (j : Nat) : (lay bs f xs)[j]? = if f ≤ j ∧ j < f + xs.length then xs[j - f]? else bs[j]? := by
  unfold lay
  by_cases h1 : j < f
  · rw [if_neg (by omega), List.getElem?_append_left (by rw [List.length_take]; omega), List.getElem?_take_of_lt h1]
  · rw [List.getElem?_append_right (by rw [List.length_take]; omega), List.length_take, Nat.min_eq_left (by omega)]
    by_cases h2 : j < f + xs.length
    · rw [if_pos ⟨by omega, h2⟩, List.getElem?_append_left (by omega)]
    · rw [if_neg (by omega), List.getElem?_append_right (by omega), List.getElem?_drop]
      congr 1; omega
theorem cut_get (bs : List Int) (f m j : Nat) : ((bs.drop f).take m)[j]? = if j < m then bs[f + j]? else none := by
  by_cases h : j < m
  · rw [if_pos h, List.getElem?_take_of_lt h, List.getElem?_drop]
  · rw [if_neg h, List.getElem?_take, if_neg h]
/-- A piece that was written tells what was written, and behind it what was there. -/
theorem cut_put_same (st : Nat → Buf) (p : Pc) (xs : List Int) (hf : p.f.toNat + p.m.toNat ≤ (st p.s.toNat).bs.length) (hx : xs.length ≤ p.m.toNat) : cutP (putP st p xs) p = xs ++ (cutP st p).drop xs.length := by
  unfold cutP putP
  rw [updB_self]
  dsimp only
  apply List.ext_getElem?
  intro j
  rw [cut_get, lay_get _ _ _ (by omega)]
  by_cases h1 : j < xs.length
  · rw [if_pos (by omega), if_pos (by omega), List.getElem?_append_left h1]
    congr 1; omega
  · rw [List.getElem?_append_right (by omega), List.getElem?_drop, cut_get, show xs.length + (j - xs.length) = j by omega]
    by_cases hj : j < p.m.toNat
    · rw [if_pos hj, if_pos hj, if_neg (by omega)]
    · rw [if_neg hj, if_neg hj]
theorem cut_put_other (st : Nat → Buf) (p q : Pc) (xs : List Int) (hf : p.f.toNat + p.m.toNat ≤ (st p.s.toNat).bs.length) (hx : xs.length ≤ p.m.toNat) (h : q.s.toNat ≠ p.s.toNat ∨ q.f.toNat + q.m.toNat ≤ p.f.toNat ∨ p.f.toNat + p.m.toNat ≤ q.f.toNat) : cutP (putP st p xs) q = cutP st q := by
  unfold cutP putP
  by_cases hs : q.s.toNat = p.s.toNat
  · rw [hs, updB_self]
    dsimp only
    apply List.ext_getElem?
    intro j
    rw [cut_get, cut_get]
    by_cases hj : j < q.m.toNat
    · rw [if_pos hj, if_pos hj, lay_get _ _ _ (by omega), if_neg (by omega)]
    · rw [if_neg hj, if_neg hj]
  · rw [updB_ne _ _ hs]
def wfP (st : Nat → Buf) (p : Pc) : Prop := p.f.toNat + p.m.toNat ≤ (st p.s.toNat).bs.length
def apartP (p q : Pc) : Prop := q.s.toNat ≠ p.s.toNat ∨ q.f.toNat + q.m.toNat ≤ p.f.toNat ∨ p.f.toNat + p.m.toNat ≤ q.f.toNat
theorem put_len (st : Nat → Buf) (p : Pc) (xs : List Int) (hf : wfP st p) (hx : xs.length ≤ p.m.toNat) (i : Nat) : (putP st p xs i).bs.length = (st i).bs.length ∧ (putP st p xs i).gen = (st i).gen ∧ (putP st p xs i).owner = (st i).owner ∧ (putP st p xs i).refs = (st i).refs := by
  unfold putP
  unfold wfP at hf
  by_cases h : i = p.s.toNat
  · subst h
    rw [updB_self]
    exact ⟨lay_len _ _ _ (by omega), rfl, rfl, rfl⟩
  · rw [updB_ne _ _ h]; exact ⟨rfl, rfl, rfl, rfl⟩
theorem sca_other : ∀ (ps : List Pc) (b : List Int) (st : Nat → Buf) (q : Pc), (∀ p ∈ ps, wfP st p) → (∀ p ∈ ps, apartP p q) → cutP (scaP ps b st) q = cutP st q
  | [], _, _, _, _, _ => rfl
  | p :: ps, b, st, q, hw, ha => by
    unfold scaP
    split
    · rfl
    · have hp := hw p List.mem_cons_self
      have hx : (b.take p.m.toNat).length ≤ p.m.toNat := by rw [List.length_take]; omega
      rw [sca_other ps _ _ q (fun r hr => by
        have := hw r (List.mem_cons_of_mem _ hr)
        unfold wfP at this ⊢
        rw [(put_len st p _ hp hx _).1]; exact this) (fun r hr => ha r (List.mem_cons_of_mem _ hr))]
      exact cut_put_other st p q _ hp hx (ha p List.mem_cons_self)
theorem cut_len (st : Nat → Buf) (p : Pc) (h : wfP st p) : (cutP st p).length = p.m.toNat := by
  unfold wfP at h
  unfold cutP
  rw [List.length_take, List.length_drop]; omega
/-- What is scattered is gathered again, as far as there was room; what stands behind is as it was. -/
theorem gat_sca : ∀ (ps : List Pc) (b : List Int) (st : Nat → Buf), (∀ p ∈ ps, wfP st p) → ps.Pairwise apartP → gatP (scaP ps b st) ps = b.take (gatP st ps).length ++ (gatP st ps).drop b.length
  | [], b, st, _, _ => by unfold gatP; simp
  | p :: ps, b, st, hw, ha => by
    obtain ⟨ha1, ha2⟩ := List.pairwise_cons.1 ha
    have hp := hw p List.mem_cons_self
    unfold scaP
    by_cases hb : b = []
    · rw [if_pos hb, hb]; simp
    rw [if_neg hb]
    have hx : (b.take p.m.toNat).length ≤ p.m.toNat := by rw [List.length_take]; omega
    have hw2 : ∀ r ∈ ps, wfP (putP st p (b.take p.m.toNat)) r := fun r hr => by
      have := hw r (List.mem_cons_of_mem _ hr)
      unfold wfP at this ⊢
      rw [(put_len st p _ hp hx _).1]; exact this
    have e1 : gatP (scaP ps (b.drop p.m.toNat) (putP st p (b.take p.m.toNat))) (p :: ps) = cutP (putP st p (b.take p.m.toNat)) p ++ gatP (scaP ps (b.drop p.m.toNat) (putP st p (b.take p.m.toNat))) ps := by
      unfold gatP
      rw [List.flatMap_cons, sca_other ps _ _ p hw2 fun r hr => ?_]
      have := ha1 r hr
      unfold apartP at this ⊢
      omega
    have e2 : gatP (putP st p (b.take p.m.toNat)) ps = gatP st ps := by
      unfold gatP
      rw [List.flatMap_def, List.flatMap_def]
      congr 1
      exact List.map_congr_left fun r hr => cut_put_other st p r _ hp hx (ha1 r hr)
    rw [e1, gat_sca ps _ _ hw2 ha2, e2, cut_put_same st p _ hp hx]
    have e3 : gatP st (p :: ps) = cutP st p ++ gatP st ps := by unfold gatP; rw [List.flatMap_cons]
    have hl := cut_len st p hp
    rw [e3, List.length_append, hl]
    by_cases hbl : b.length ≤ p.m.toNat
    · rw [List.take_of_length_le hbl, List.drop_of_length_le hbl, List.take_nil, List.nil_append, List.length_nil, List.drop_zero, List.take_of_length_le (by omega), List.drop_append_of_le_length (by omega), List.append_assoc]
    · rw [List.length_take, Nat.min_eq_left (by omega), List.drop_of_length_le (l := cutP st p) (by omega), List.append_nil, List.length_drop, List.drop_append, List.drop_of_length_le (l := cutP st p) (by omega), List.nil_append, hl, ← List.append_assoc]
      congr 1
      rw [List.take_add]
theorem mayG_all {n : Nat} {st : Nat → Buf} : ∀ (ps pre : List Pc), mayG n st pre ps = true → (∀ p ∈ ps, fitP n st p = true) ∧ ps.Pairwise (fun p q => meetP q p = false) ∧ ∀ p ∈ pre, ∀ q ∈ ps, meetP q p = false
  | [], _, _ => ⟨fun _ h => (by cases h), List.Pairwise.nil, fun _ _ _ h => (by cases h)⟩
  | c :: r, pre, h => by
    unfold mayG at h
    simp only [Bool.and_eq_true, Bool.not_eq_true'] at h
    obtain ⟨⟨h1, h2⟩, h3⟩ := h
    obtain ⟨i1, i2, i3⟩ := mayG_all r _ h3
    have h2' : ∀ p ∈ pre, meetP c p = false := fun p hp => by
      have := List.any_eq_false.1 h2 p hp
      simpa using this
    refine ⟨fun p hp => ?_, List.pairwise_cons.2 ⟨fun q hq => i3 c (by simp) q hq, i2⟩, fun p hp q hq => ?_⟩
    · rcases List.mem_cons.1 hp with rfl | hp
      · exact h1
      · exact i1 p hp
    · rcases List.mem_cons.1 hq with rfl | hq
      · exact h2' p hp
      · exact i3 p (by simp [hp]) q hq
theorem fit_wf {n : Nat} {st : Nat → Buf} {p : Pc} {G : Int} (ok : POK n st G) (h : fitP n st p = true) : wfP st p := by
  obtain ⟨h1, h2, h3, i, h4, h5, h6, h7, h8⟩ := fitP_bd ok h
  unfold wfP
  rw [h5, Int.toNat_natCast]
  omega
theorem may_wf {n : Nat} {st : Nat → Buf} {ps : List Pc} {G : Int} (ok : POK n st G) (h : mayL n st ps = true) : (∀ p ∈ ps, wfP st p) ∧ ps.Pairwise apartP ∧ (∀ p ∈ ps, fitP n st p = true) ∧ 1 ≤ ps.length ∧ ps.length ≤ 16 := by
  unfold mayL at h
  rw [Bool.and_eq_true, decide_eq_true_eq] at h
  obtain ⟨h1, h2, _⟩ := mayG_all ps [] h.2
  refine ⟨fun p hp => fit_wf ok (h1 p hp), ?_, h1, h.1⟩
  refine (List.Pairwise.and_mem.1 h2).imp ?_
  rintro p q ⟨hp, hq, hm⟩
  obtain ⟨a1, a2, a3, i, a4, a5, a6, a7, a8⟩ := fitP_bd ok (h1 p hp)
  obtain ⟨b1, b2, b3, j, b4, b5, b6, b7, b8⟩ := fitP_bd ok (h1 q hq)
  unfold meetP at hm
  have hm := of_decide_eq_false hm
  unfold apartP
  by_cases e : q.s.toNat = p.s.toNat
  · have e2 : i = j := by omega
    subst e2
    have : p.g = q.g := a7.symm.trans b7
    by_cases h3 : p.f < q.f + q.m
    · have : ¬ q.f < p.f + p.m := fun h4 => hm ⟨by omega, this, h3, h4⟩
      omega
    · omega
  · exact Or.inl e
end Go.Proofs.Ytiaojhjghededaa
