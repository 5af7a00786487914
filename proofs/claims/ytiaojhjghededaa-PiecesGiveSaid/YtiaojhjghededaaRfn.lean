/- Words for ranges over a function: things side by side abide the loop's own blocks. Plain theorems; nothing of one law. -/
import Derived.Test.YtiaojhjghededaaMore
import Derived.RangeFuncNested
import Derived.RangeFuncBound
import Derived.RangeFuncCalls
import Derived.RangeFuncLeaves
namespace Go.Proofs.Ytiaojhjghededaa
open Go.RowKit
set_option linter.unusedVariables false
/-- What holds it are cells, none of the type T. -/
def Cy (T : TypeId) (R : Res) : Prop := ∀ (w : World) (S : Nat → Prop), R w S → ∀ b, S b → ∃ (arr : Array Value) (e : TypeId) (fz : Nat × Nat), w.heap[b]? = some (Obj.cells arr e fz) ∧ e ≠ T
theorem Cy.star {T : TypeId} {L : List Res} (h : ∀ R ∈ L, Cy T R) : Cy T (Star L) := by
  rintro w S ⟨F, h1, h2, h3, h4⟩ b hb
  obtain ⟨i, hi⟩ := (h4 b).1 hb
  have hlt := h3 i b hi
  exact h _ (List.getElem_mem hlt) w (F i) (h1 i _ (List.getElem?_eq_getElem hlt)).2 b hi
theorem Cy.blk {T : TypeId} (g : Nat) (t : TypeId) (cs : Array Value) (h : t ≠ T) : Cy T (BlkR g t cs) := fun w S ⟨hb, hs⟩ b hb' => by
  rw [(hs b).1 hb']
  exact ⟨_, _, _, hb, h⟩
theorem Cy.lis {T : TypeId} (e : TypeId) (size : Nat) (v : Value) (n : Nat) (xs : List Value) (h : e ≠ T) : Cy T (LisR e size v n xs) := fun w S ⟨h0, hs⟩ b hb => by
  have hv := (hs b).1 hb
  obtain ⟨h1, h2⟩ := h0
  rcases h2 with ⟨rfl, _⟩ | ⟨g, off, cap, arr, rfl, h4, _, h5, _⟩
  · cases hv
  · have : some g = some b := hv
    injection this with this
    subst this
    exact ⟨_, _, _, h4, h⟩
theorem Cy.nil {T : TypeId} : ∀ R ∈ ([] : List Res), Cy T R := fun R h => by cases h
theorem Cy.cons {T : TypeId} {R : Res} {L : List Res} (h : Cy T R) (hs : ∀ R ∈ L, Cy T R) : ∀ R' ∈ R :: L, Cy T R' := fun R' hR => by
  rcases List.mem_cons.1 hR with rfl | hR
  · exact h
  · exact hs R' hR
theorem St.own {T : TypeId} {w0 W W' : World} {S0 : Nat → Prop} {L : List Res} {B : Nat} {row : Option Nat} (h : St w0 S0 W L) (hL : ∀ R ∈ L, Cy T R) (hB : w0.heap.size ≤ B) (hg : W.grownBy W' row) (hr : ∀ r, row = some r → B ≤ r ∧ ∃ o : Obj, W.heap[r]? = some o ∧ o.isCells = false) : St w0 S0 W' L := by
  obtain ⟨S, hs, hd⟩ := h
  have hc := Cy.star hL W S hs
  refine ⟨S, (Star.ok L).frame hs fun b hb => ?_, ⟨hg.os.trans hd.os, hg.tape.trans hd.tape, hg.output.trans hd.output, Nat.le_trans hd.size hg.size, fun k hk hn => ?_, hd.own⟩⟩
  · refine hg.block b ((Star.ok L).lt hs b hb) fun e => ?_
    obtain ⟨_, o, ho, hf⟩ := hr b e.symm
    obtain ⟨arr, e', fz, ho', _⟩ := hc b hb
    rw [ho] at ho'
    injection ho' with ho'
    subst ho'
    cases hf
  · rw [hg.block k (Nat.lt_of_lt_of_le hk hd.size) fun e => by have := (hr k e.symm).1; omega]
    exact hd.block k hk hn
/-- Some blocks, and those of the type T, lie as they lay. -/
def KpB (T : TypeId) (K : Nat → Prop) (W W' : World) : Prop := W.heap.size ≤ W'.heap.size ∧ (∀ b, K b → W'.heap[b]? = W.heap[b]?) ∧ ∀ (b : Nat) (arr : Array Value) (fz : Nat × Nat), W.heap[b]? = some (Obj.cells arr T fz) → W'.heap[b]? = some (Obj.cells arr T fz)
theorem KpB.refl (T : TypeId) (K : Nat → Prop) (W : World) : KpB T K W W := ⟨Nat.le_refl _, fun _ _ => rfl, fun _ _ _ h => h⟩
theorem KpB.trans {T : TypeId} {K : Nat → Prop} {A B C : World} (h : KpB T K A B) (k : KpB T K B C) : KpB T K A C := ⟨Nat.le_trans h.1 k.1, fun b hb => (k.2.1 b hb).trans (h.2.1 b hb), fun b arr fz hb => k.2.2 b arr fz (h.2.2 b arr fz hb)⟩
theorem KpB.put {T : TypeId} {K : Nat → Prop} {B : Nat} (hK : ∀ b, K b → b < B) (W : World) (l : Nat) (o o' : Obj) (hl : B ≤ l) (ho : W.heap[l]? = some o) (hc : o.isCells = false) : KpB T K W (W.putObj l o') :=
  ⟨by simp, fun b hb => World.putObj_heap_other (fun e => by have := hK b hb; omega), fun b arr fz hb => by
    rw [World.putObj_heap_other (fun e => by subst e; rw [ho] at hb; injection hb with hb; subst hb; cases hc)]; exact hb⟩
theorem KpB.below {T : TypeId} {K : Nat → Prop} {W W' : World} (hb : Below W.heap.size W W') (hK : ∀ b, K b → b < W.heap.size) : KpB T K W W' :=
  ⟨hb.size, fun b h => hb.block b (hK b h), fun b arr fz h => (hb.block b (Array.getElem?_eq_some_iff.1 h).1).trans h⟩
theorem KpB.set {T : TypeId} {K : Nat → Prop} {W : World} {b : Nat} {t : TypeId} {arr : Array Value} {fz : Nat × Nat} (hb : W.heap[b]? = some (Obj.cells arr t fz)) (ht : t ≠ T) (hk : ¬ K b) (o : Nat) (v : Value) : KpB T K W (W.setCell ⟨b, o, none⟩ v) :=
  ⟨by simp [World.setCell], fun b' hb' => Below.heap_setCell W _ v b' (fun e => hk (by have e : b' = b := e; exact e ▸ hb')), fun b' arr' fz' h => by
    rw [Below.heap_setCell W _ v b' (fun e => ?_)]
    · exact h
    · have e : b' = b := e
      rw [e, hb] at h
      injection h with h
      injection h with _ h2
      exact ht h2⟩
/-- Taken apart for a round: what the round kept, and what it comes to. -/
theorem St.apart {T : TypeId} {w0 W : World} {S0 : Nat → Prop} {L : List Res} (h : St w0 S0 W L) (hL : ∀ R ∈ L, Cy T R) : ∃ S, St W S W L ∧ (∀ W' L', St W S W' L' → KeepsOthers W W' ∧ St w0 S0 W' L' ∧ ∀ K : Nat → Prop, (∀ k, K k → k < w0.heap.size ∧ ¬ S0 k) → KpB T K W W') := by
  obtain ⟨S, hs, hd⟩ := h
  have hc := Cy.star hL W S hs
  refine ⟨S, St.start hs, fun W' L' H => ?_⟩
  obtain ⟨S', hs', hd'⟩ := H
  refine ⟨⟨hd'.size, fun k o hk ho => ?_⟩, ⟨S', hs', hd.trans hd' ((Star.ok L).lt hs)⟩, fun K hK => ⟨hd'.size, fun k hk => ?_, fun b arr fz hb => ?_⟩⟩
  · rw [hd'.block k (Array.getElem?_eq_some_iff.1 hk).1 fun hS => ?_]
    · exact hk
    · obtain ⟨arr, e, fz, ho', _⟩ := hc k hS
      rw [hk] at ho'
      injection ho' with ho'
      subst ho'
      cases ho
  · obtain ⟨h1, h2⟩ := hK k hk
    exact hd'.block k (Nat.lt_of_lt_of_le h1 hd.size) fun hS => (hd.own k hS).elim h2 fun h => by omega
  · rw [hd'.block b (Array.getElem?_eq_some_iff.1 hb).1 fun hS => ?_]
    · exact hb
    · obtain ⟨arr', e, fz', ho', hne⟩ := hc b hS
      rw [hb] at ho'
      injection ho' with ho'
      injection ho' with _ h2
      exact hne h2.symm
end Go.Proofs.Ytiaojhjghededaa
