/- Words for what is one's own in memory: things side by side, each with blocks of its own; a call that is known of one of them leaves the others. Plain theorems; nothing of one law. -/
import Derived.Test.YtdjhpdacglojaaaGreatObj
import Derived.Maps.AppendAt
import Derived.OwnWalk
import Derived.Laws.MakeOwn
import Derived.Laws.Entries
namespace Go.Proofs.YtdjhpdacglojaaaGreat
open Go.RowKit
set_option linter.unusedVariables false
/-- What holds of a world, in these blocks. -/
abbrev Res := World → (Nat → Prop) → Prop
structure Ok (R : Res) : Prop where
  lt : ∀ {w S}, R w S → ∀ b, S b → b < w.heap.size
  frame : ∀ {w w' S}, R w S → (∀ b, S b → w'.heap[b]? = w.heap[b]?) → R w' S
/-- Of old blocks only those of S turned; those of S' are S's, or new. -/
structure Did (S S' : Nat → Prop) (w w' : World) : Prop where
  os : w'.os = w.os
  tape : w'.tape = w.tape
  output : w'.output = w.output
  size : w.heap.size ≤ w'.heap.size
  block : ∀ k, k < w.heap.size → ¬ S k → w'.heap[k]? = w.heap[k]?
  own : ∀ b, S' b → S b ∨ w.heap.size ≤ b
/-- Things side by side. -/
def Star (L : List Res) : Res := fun w S => ∃ F : Nat → Nat → Prop, (∀ i R, L[i]? = some R → Ok R ∧ R w (F i)) ∧ (∀ i j b, F i b → F j b → i = j) ∧ (∀ i b, F i b → i < L.length) ∧ ∀ b, S b ↔ ∃ i, F i b
theorem Star.ok (L : List Res) : Ok (Star L) := by
  refine ⟨fun {w S} h b hb => ?_, fun {w w' S} h hk => ?_⟩
  · obtain ⟨F, h1, h2, h3, h4⟩ := h
    obtain ⟨i, hi⟩ := (h4 b).1 hb
    obtain ⟨ho, hr⟩ := h1 i _ (List.getElem?_eq_getElem (h3 i b hi))
    exact ho.lt hr b hi
  · obtain ⟨F, h1, h2, h3, h4⟩ := h
    exact ⟨F, fun i R hR => ⟨(h1 i R hR).1, (h1 i R hR).1.frame (h1 i R hR).2 fun b hb => hk b ((h4 b).2 ⟨i, hb⟩)⟩, h2, h3, h4⟩
theorem Star.nil (w : World) : Star [] w (fun _ => False) := ⟨fun _ _ => False, fun i R h => by simp at h, fun _ _ _ h => h.elim, fun _ _ h => h.elim, fun b => ⟨fun h => h.elim, fun ⟨_, h⟩ => h⟩⟩
theorem Star.one {R : Res} {w : World} {S : Nat → Prop} (ho : Ok R) (h : R w S) : Star [R] w S := by
  refine ⟨fun i b => i = 0 ∧ S b, fun i R' hR => ?_, fun i j b h1 h2 => h1.1.trans h2.1.symm, fun i b h => by simp [h.1], fun b => ⟨fun h => ⟨0, rfl, h⟩, fun ⟨i, h⟩ => h.2⟩⟩
  cases i with
  | zero => simp at hR; subst hR; exact ⟨ho, by simpa using h⟩
  | succ i => simp at hR
theorem star_one {R : Res} {w : World} {S : Nat → Prop} (h : Star [R] w S) : R w S := by
  obtain ⟨F, f1, f2, f3, f4⟩ := h
  have e : S = F 0 := funext fun b => propext ⟨fun hb => by
    obtain ⟨i, hi⟩ := (f4 b).1 hb
    have := f3 i b hi
    simp at this
    subst this; exact hi, fun hb => (f4 b).2 ⟨0, hb⟩⟩
  rw [e]; exact (f1 0 R rfl).2
theorem Star.append {A B : List Res} {w : World} {S T : Nat → Prop} (ha : Star A w S) (hb : Star B w T) (hd : ∀ b, S b → ¬ T b) : Star (A ++ B) w (fun b => S b ∨ T b) := by
  obtain ⟨F, f1, f2, f3, f4⟩ := ha
  obtain ⟨G, g1, g2, g3, g4⟩ := hb
  refine ⟨fun i b => F i b ∨ (A.length ≤ i ∧ G (i - A.length) b), fun i R hR => ?_, fun i j b hi hj => ?_, fun i b hi => ?_, fun b => ⟨fun h => ?_, fun ⟨i, h⟩ => ?_⟩⟩
  · by_cases hi : i < A.length
    · rw [List.getElem?_append_left hi] at hR
      have e : (fun b => F i b ∨ (A.length ≤ i ∧ G (i - A.length) b)) = F i := funext fun b => propext ⟨fun h => h.elim id fun h => by omega, Or.inl⟩
      dsimp only; rw [e]; exact f1 i R hR
    · rw [List.getElem?_append_right (by omega)] at hR
      have e : (fun b => F i b ∨ (A.length ≤ i ∧ G (i - A.length) b)) = G (i - A.length) :=
        funext fun b => propext ⟨fun h => h.elim (fun h => absurd (f3 i b h) hi) fun h => h.2, fun h => Or.inr ⟨by omega, h⟩⟩
      dsimp only; rw [e]; exact g1 _ R hR
  · rcases hi with hi | ⟨hi0, hi⟩ <;> rcases hj with hj | ⟨hj0, hj⟩
    · exact f2 i j b hi hj
    · exact absurd ((g4 b).2 ⟨_, hj⟩) (hd b ((f4 b).2 ⟨_, hi⟩))
    · exact absurd ((g4 b).2 ⟨_, hi⟩) (hd b ((f4 b).2 ⟨_, hj⟩))
    · have := g2 _ _ b hi hj; omega
  · rcases hi with hi | ⟨hi0, hi⟩
    · have := f3 i b hi; simp; omega
    · have := g3 _ b hi; simp; omega
  · rcases h with h | h
    · obtain ⟨i, hi⟩ := (f4 b).1 h; exact ⟨i, Or.inl hi⟩
    · obtain ⟨i, hi⟩ := (g4 b).1 h; exact ⟨A.length + i, Or.inr ⟨by omega, by rwa [Nat.add_sub_cancel_left]⟩⟩
  · rcases h with h | ⟨_, h⟩
    · exact Or.inl ((f4 b).2 ⟨_, h⟩)
    · exact Or.inr ((g4 b).2 ⟨_, h⟩)
/-- Some of them, by their places, in any order. -/
theorem Star.pick {L : List Res} {w : World} {S : Nat → Prop} (h : Star L w S) (js : List Nat) (hn : js.Nodup) (hb : ∀ j ∈ js, j < L.length) (M : List Res) (hM : M.length = js.length) (hml : ∀ i j : Nat, js[i]? = some j → M[i]? = L[j]?) :
    ∃ S', Star M w S' ∧ ∀ b, S' b → S b := by
  obtain ⟨F, f1, f2, f3, f4⟩ := h
  refine ⟨fun b => ∃ i j, js[i]? = some j ∧ F j b, ⟨fun i b => ∃ j, js[i]? = some j ∧ F j b, fun i R hR => ?_, fun i i' b hi hi' => ?_, fun i b hi => ?_, fun b => Iff.rfl⟩, fun b ⟨i, j, _, h⟩ => (f4 b).2 ⟨j, h⟩⟩
  · have hi : i < js.length := by
      rcases Nat.lt_or_ge i M.length with h | h
      · omega
      · rw [List.getElem?_eq_none h] at hR; cases hR
    have hj : js[i]? = some js[i] := List.getElem?_eq_getElem hi
    rw [hml i _ hj] at hR
    have e : (fun b => ∃ j, js[i]? = some j ∧ F j b) = F js[i] := funext fun b => propext ⟨fun ⟨j, h1, h2⟩ => by rw [hj] at h1; injection h1 with h1; subst h1; exact h2, fun h => ⟨_, hj, h⟩⟩
    dsimp only; rw [e]; exact f1 _ R hR
  · obtain ⟨j, h1, h2⟩ := hi
    obtain ⟨j', h1', h2'⟩ := hi'
    have := f2 j j' b h2 h2'
    subst this
    have a1 := (List.getElem?_eq_some_iff.1 h1)
    have a2 := (List.getElem?_eq_some_iff.1 h1')
    obtain ⟨b1, c1⟩ := a1
    obtain ⟨b2, c2⟩ := a2
    have hp := List.pairwise_iff_getElem.1 hn
    rcases Nat.lt_trichotomy i i' with h | h | h
    · exact absurd (c1.trans c2.symm) (hp i i' b1 b2 h)
    · exact h
    · exact absurd (c2.trans c1.symm) (hp i' i b2 b1 h)
  · obtain ⟨j, h1, _⟩ := hi
    rcases Nat.lt_or_ge i js.length with h | h
    · omega
    · rw [List.getElem?_eq_none h] at h1; cases h1
/-- One of them in the place of another. -/
theorem Star.split {L : List Res} {w : World} {S : Nat → Prop} {i : Nat} {R : Res} (h : Star L w S) (hi : L[i]? = some R) :
    ∃ T, R w T ∧ Ok R ∧ (∀ b, T b → S b) ∧ ∀ (w' : World) (R' : Res) (T' : Nat → Prop), Ok R' → R' w' T' → (∀ b, S b → ¬ T b → w'.heap[b]? = w.heap[b]?) → (∀ b, T' b → T b ∨ ¬ S b) →
      Star (L.set i R') w' (fun b => (S b ∧ ¬ T b) ∨ T' b) := by
  obtain ⟨F, f1, f2, f3, f4⟩ := h
  have hil : i < L.length := by
    rcases Nat.lt_or_ge i L.length with h | h
    · exact h
    · rw [List.getElem?_eq_none h] at hi; cases hi
  refine ⟨F i, (f1 i R hi).2, (f1 i R hi).1, fun b hb => (f4 b).2 ⟨i, hb⟩, fun w' R' T' ho hr hk hT => ⟨fun j b => if j = i then T' b else F j b, fun j R1 hj => ?_, fun j k b hj hk' => ?_, fun j b hj => ?_, fun b => ⟨fun h => ?_, fun ⟨j, h⟩ => ?_⟩⟩⟩
  · by_cases e : j = i
    · subst e
      rw [List.getElem?_set_self hil] at hj
      injection hj with hj
      subst hj
      simpa using ⟨ho, hr⟩
    · rw [List.getElem?_set_ne (Ne.symm e)] at hj
      have h1 := f1 j R1 hj
      simp only [if_neg e]
      exact ⟨h1.1, h1.1.frame h1.2 fun b hb => hk b ((f4 b).2 ⟨j, hb⟩) fun hb' => e (f2 j i b hb hb')⟩
  · by_cases e : j = i <;> by_cases e' : k = i
    · rw [e, e']
    · simp only [if_pos e] at hj; simp only [if_neg e'] at hk'
      rcases hT b hj with h | h
      · exact absurd (f2 k i b hk' h) e'
      · exact absurd ((f4 b).2 ⟨k, hk'⟩) h
    · simp only [if_neg e] at hj; simp only [if_pos e'] at hk'
      rcases hT b hk' with h | h
      · exact absurd (f2 j i b hj h) e
      · exact absurd ((f4 b).2 ⟨j, hj⟩) h
    · simp only [if_neg e] at hj; simp only [if_neg e'] at hk'
      exact f2 j k b hj hk'
  · by_cases e : j = i
    · rw [e]; simpa using hil
    · simp only [if_neg e] at hj; simpa using f3 j b hj
  · rcases h with ⟨h, hn⟩ | h
    · obtain ⟨j, hj⟩ := (f4 b).1 h
      have e : j ≠ i := fun e => hn (by rw [← e]; exact hj)
      exact ⟨j, by simpa [e] using hj⟩
    · exact ⟨i, by simpa using h⟩
  · by_cases e : j = i
    · simp only [if_pos e] at h; exact Or.inr h
    · simp only [if_neg e] at h
      exact Or.inl ⟨(f4 b).2 ⟨j, h⟩, fun hb => e (f2 j i b h hb)⟩
/-- Since w0 only blocks of S0, and new ones, have turned; these things are there now, in such blocks. -/
def St (w0 : World) (S0 : Nat → Prop) (w : World) (L : List Res) : Prop := ∃ S, Star L w S ∧ Did S0 S w0 w
abbrev None : Nat → Prop := fun _ => False
section
variable {w0 w w' : World} {S0 S S' : Nat → Prop} {L N : List Res} {R : Res} {i : Nat}
theorem Did.refl (S : Nat → Prop) (w : World) : Did S S w w := ⟨rfl, rfl, rfl, Nat.le_refl _, fun _ _ _ => rfl, fun _ h => Or.inl h⟩
theorem Did.less {T : Nat → Prop} (h : Did S S' w w') (ht : ∀ b, T b → S' b) : Did S T w w' := ⟨h.os, h.tape, h.output, h.size, h.block, fun b hb => h.own b (ht b hb)⟩
theorem Did.below (h : Below w.heap.size w w') : Did S S w w' := ⟨h.os, h.tape, h.output, h.size, fun k hk _ => h.block k hk, fun _ h => Or.inl h⟩
theorem Did.fresh (h : Below w.heap.size w w') (hf : ∀ b, S' b → w.heap.size ≤ b) : Did S S' w w' := ⟨h.os, h.tape, h.output, h.size, fun k hk _ => h.block k hk, fun b hb => Or.inr (hf b hb)⟩
theorem Did.to_below (h : Did None S' w w') : Below w.heap.size w w' := ⟨h.os, h.tape, h.output, h.size, fun k hk => h.block k hk id⟩
theorem Did.of_only {g : Nat} (h : Only g w w') (hg : S g) (hs : ∀ b, S' b → S b ∨ w.heap.size ≤ b) : Did S S' w w' := ⟨h.os, h.tape, h.output, h.size, fun k hk hn => h.block k hk fun e => hn (e ▸ hg), hs⟩
theorem Did.trans {a b c : World} {S1 S2 S3 : Nat → Prop} (h : Did S1 S2 a b) (k : Did S2 S3 b c) (hl : ∀ x, S2 x → x < b.heap.size) : Did S1 S3 a c :=
  ⟨k.os.trans h.os, k.tape.trans h.tape, k.output.trans h.output, Nat.le_trans h.size k.size, fun x hx hn => (k.block x (Nat.lt_of_lt_of_le hx h.size) fun h2 => (h.own x h2).elim hn fun h3 => by omega).trans (h.block x hx hn),
   fun x hx => (k.own x hx).elim (fun h2 => h.own x h2) fun h2 => Or.inr (Nat.le_trans h.size h2)⟩
theorem St.start (h : Star L w S) : St w S w L := ⟨S, h, Did.refl S w⟩
theorem St.begin (w : World) : St w None w [] := ⟨_, Star.nil w, Did.refl _ w⟩
theorem St.below (h : St w0 None w L) : Below w0.heap.size w0 w := by obtain ⟨S, _, hd⟩ := h; exact hd.to_below
theorem St.size (h : St w0 S0 w L) : w0.heap.size ≤ w.heap.size := by obtain ⟨S, _, hd⟩ := h; exact hd.size
theorem St.cell (h : St w0 S0 w L) {p : Addr} (hp : p.block < w0.heap.size) (hn : ¬ S0 p.block) : w.cell? p = w0.cell? p := by obtain ⟨S, _, hd⟩ := h; exact World.cell?_of_block (w := w0) (hd.block p.block hp hn)
theorem St.get (h : St w0 S0 w L) (i : Nat) (hi : L[i]? = some R) : ∃ S, R w S := by
  obtain ⟨S, ⟨F, h1, _⟩, _⟩ := h; exact ⟨_, (h1 i R hi).2⟩
theorem St.stay (h : St w0 S0 w L) (hb : Below w.heap.size w w') : St w0 S0 w' L := by
  obtain ⟨S, hs, hd⟩ := h
  exact ⟨S, (Star.ok L).frame hs fun b hb' => hb.block b ((Star.ok L).lt hs b hb'), hd.trans (Did.below hb) ((Star.ok L).lt hs)⟩
theorem St.drewN (h : St w0 S0 w L) (n : Nat) : St w0 S0 (w.drewN n) L := h.stay (below_drewN (Below.refl _ _) n)
theorem St.drew (h : St w0 S0 w L) : St w0 S0 w.drew L := h.stay (Below.refl _ _).drew
theorem St.alloc (h : St w0 S0 w L) (o : Obj) : St w0 S0 (w.alloc o) L := h.stay ((Below.refl _ _).alloc (Nat.le_refl _) o)
/-- Things more, in new blocks. -/
theorem St.more (h : St w0 S0 w L) (hb : Below w.heap.size w w') (hn : Star N w' S') (hf : ∀ b, S' b → w.heap.size ≤ b) : St w0 S0 w' (L ++ N) := by
  obtain ⟨S, hs, hd⟩ := h
  have hl := (Star.ok L).lt hs
  refine ⟨_, Star.append ((Star.ok L).frame hs fun b hb' => hb.block b (hl b hb')) hn fun b h1 h2 => ?_, (hd.trans (Did.below hb) hl).os, (hd.trans (Did.below hb) hl).tape, (hd.trans (Did.below hb) hl).output, (hd.trans (Did.below hb) hl).size, (hd.trans (Did.below hb) hl).block, fun b hb' => ?_⟩
  · have := hl b h1; have := hf b h2; omega
  · rcases hb' with h1 | h1
    · exact hd.own b h1
    · exact Or.inr (Nat.le_trans hd.size (hf b h1))
/-- One thing turned, by what was done in its blocks. -/
theorem St.turn (h : St w0 S0 w L) {i : Nat} {R R' : Res} (hi : L[i]? = some R) (ho : Ok R') (hk : ∀ T, R w T → ∃ T', R' w' T' ∧ Did T T' w w') : St w0 S0 w' (L.set i R') := by
  obtain ⟨S, hs, hd⟩ := h
  have hl := (Star.ok L).lt hs
  obtain ⟨T, hT, hok, hTS, hput⟩ := hs.split hi
  obtain ⟨T', hT', hdid⟩ := hk T hT
  refine ⟨_, hput w' R' T' ho hT' (fun b hb hn => hdid.block b (hl b hb) hn) (fun b hb => (hdid.own b hb).imp id fun h => fun h2 => by have := hl b h2; omega), ?_⟩
  exact ⟨hdid.os.trans hd.os, hdid.tape.trans hd.tape, hdid.output.trans hd.output, Nat.le_trans hd.size hdid.size,
    fun k hk hn => (hdid.block k (Nat.lt_of_lt_of_le hk hd.size) fun hkT => by rcases hd.own k (hTS k hkT) with h | h; exact hn h; omega).trans (hd.block k hk hn),
    fun b hb => by
      rcases hb with ⟨h1, _⟩ | h1
      · exact hd.own b h1
      · rcases hdid.own b h1 with h2 | h2
        · exact hd.own b (hTS b h2)
        · exact Or.inr (Nat.le_trans hd.size h2)⟩
/-- Some of them are kept in mind. -/
theorem St.pick (h : St w0 S0 w L) (js : List Nat) (M : List Res) (hn : js.Nodup) (hb : ∀ j ∈ js, j < L.length) (hM : M.length = js.length) (hml : ∀ i j : Nat, js[i]? = some j → M[i]? = L[j]?) : St w0 S0 w M := by
  obtain ⟨S, hs, hd⟩ := h
  obtain ⟨S', h1, h2⟩ := hs.pick js hn hb M hM hml
  exact ⟨S', h1, hd.less h2⟩
/-- One of them is not kept in mind. -/
theorem St.drop (h : St w0 S0 w L) (i : Nat) (hi : i < L.length) : St w0 S0 w (L.eraseIdx i) := by
  obtain ⟨S, ⟨F, f1, f2, f3, f4⟩, hd⟩ := h
  have e : ∀ k, (L.eraseIdx i)[k]? = L[if k < i then k else k + 1]? := fun k => by rw [List.getElem?_eraseIdx]; split <;> rfl
  refine ⟨fun b => ∃ k, F (if k < i then k else k + 1) b, ⟨fun k b => F (if k < i then k else k + 1) b, fun k R hR => f1 _ R (by rw [← e]; exact hR), fun k k' b h1 h2 => ?_, fun k b h1 => ?_, fun b => Iff.rfl⟩, hd.less fun b ⟨k, hk⟩ => (f4 b).2 ⟨_, hk⟩⟩
  · have := f2 _ _ b h1 h2
    split at this <;> split at this <;> omega
  · have := f3 _ b h1
    rw [List.length_eraseIdx]
    split at this <;> split <;> omega
/-- The first ones. -/
theorem St.take (h : St w0 S0 w L) (n : Nat) : St w0 S0 w (L.take n) := by
  obtain ⟨S, ⟨F, f1, f2, f3, f4⟩, hd⟩ := h
  refine ⟨fun b => ∃ i, i < n ∧ F i b, ⟨fun i b => i < n ∧ F i b, fun i R hR => ?_, fun i j b hi hj => f2 i j b hi.2 hj.2, fun i b hi => ?_, fun b => Iff.rfl⟩, hd.less fun b ⟨i, _, hi⟩ => (f4 b).2 ⟨i, hi⟩⟩
  · rw [List.getElem?_take] at hR
    split at hR
    · rename_i hin
      have e : (fun b => i < n ∧ F i b) = F i := funext fun b => propext ⟨fun h => h.2, fun h => ⟨hin, h⟩⟩
      dsimp only; rw [e]; exact f1 i R hR
    · cases hR
  · have := f3 i b hi.2
    rw [List.length_take]
    have := hi.1
    omega
/-- In another order. -/
theorem St.invol (h : St w0 S0 w L) (σ : Nat → Nat) (hσ : ∀ i, σ (σ i) = i) (M : List Res) (hM : ∀ i : Nat, M[i]? = L[σ i]?) : St w0 S0 w M := by
  obtain ⟨S, ⟨F, f1, f2, f3, f4⟩, hd⟩ := h
  refine ⟨S, ⟨fun i b => F (σ i) b, fun i R hR => f1 _ R (by rw [← hM]; exact hR), fun i j b hi hj => by have := f2 _ _ b hi hj; rw [← hσ i, this, hσ j], fun i b hi => ?_, fun b => ⟨fun hb => ?_, fun ⟨i, hi⟩ => (f4 b).2 ⟨_, hi⟩⟩⟩, hd⟩
  · have h1 := f3 _ b hi
    have h2 := hM i
    rw [List.getElem?_eq_getElem h1] at h2
    exact (List.getElem?_eq_some_iff.1 h2).1
  · obtain ⟨i, hi⟩ := (f4 b).1 hb
    exact ⟨σ i, by dsimp only; rwa [hσ]⟩
theorem St.swap01 {A B : Res} (h : St w0 S0 w (A :: B :: L)) : St w0 S0 w (B :: A :: L) :=
  h.invol (fun | 0 => 1 | 1 => 0 | n + 2 => n + 2) (fun i => by match i with | 0 => rfl | 1 => rfl | n + 2 => rfl) _ (fun i => by match i with | 0 => rfl | 1 => rfl | n + 2 => rfl)
theorem St.swap12 {A B C : Res} (h : St w0 S0 w (A :: B :: C :: L)) : St w0 S0 w (A :: C :: B :: L) :=
  h.invol (fun | 0 => 0 | 1 => 2 | 2 => 1 | n + 3 => n + 3) (fun i => by match i with | 0 => rfl | 1 => rfl | 2 => rfl | n + 3 => rfl) _ (fun i => by match i with | 0 => rfl | 1 => rfl | 2 => rfl | n + 3 => rfl)
theorem St.swap23 {A B C D : Res} (h : St w0 S0 w (A :: B :: C :: D :: L)) : St w0 S0 w (A :: B :: D :: C :: L) :=
  h.invol (fun | 0 => 0 | 1 => 1 | 2 => 3 | 3 => 2 | n + 4 => n + 4) (fun i => by match i with | 0 => rfl | 1 => rfl | 2 => rfl | 3 => rfl | n + 4 => rfl) _ (fun i => by match i with | 0 => rfl | 1 => rfl | 2 => rfl | 3 => rfl | n + 4 => rfl)
/-- The last ones together are one thing. -/
theorem St.fold {A B : List Res} (h : St w0 S0 w (A ++ B)) (ho : Ok R) (hr : ∀ S, Star B w S → R w S) : St w0 S0 w (A ++ [R]) := by
  obtain ⟨S, ⟨F, f1, f2, f3, f4⟩, hd⟩ := h
  refine ⟨S, ?_, hd⟩
  have hA : Star A w (fun b => ∃ i, i < A.length ∧ F i b) := ⟨fun i b => i < A.length ∧ F i b, fun i R hR => by
      have hi : i < A.length := by
        rcases Nat.lt_or_ge i A.length with h | h
        · exact h
        · rw [List.getElem?_eq_none h] at hR; cases hR
      have e : (fun b => i < A.length ∧ F i b) = F i := funext fun b => propext ⟨fun h => h.2, fun h => ⟨hi, h⟩⟩
      dsimp only; rw [e]; exact f1 i R (by rw [List.getElem?_append_left hi]; exact hR), fun i j b hi hj => f2 i j b hi.2 hj.2, fun i b hi => hi.1, fun b => Iff.rfl⟩
  have hB : Star B w (fun b => ∃ i, A.length ≤ i ∧ F i b) := ⟨fun i b => F (A.length + i) b, fun i R hR => f1 (A.length + i) R (by rw [List.getElem?_append_right (by omega)]; rwa [Nat.add_sub_cancel_left]),
      fun i j b hi hj => by have := f2 _ _ b hi hj; omega, fun i b hi => by have := f3 _ b hi; simp at this; omega, fun b => ⟨fun ⟨i, hi, h⟩ => ⟨i - A.length, by dsimp only; rwa [Nat.add_sub_cancel' hi]⟩, fun ⟨i, h⟩ => ⟨A.length + i, by omega, h⟩⟩⟩
  have hj := Star.append hA (Star.one ho (hr _ hB)) (fun b ⟨i, hi, h1⟩ ⟨j, hj, h2⟩ => by have := f2 i j b h1 h2; omega)
  have e : (fun b => (∃ i, i < A.length ∧ F i b) ∨ ∃ i, A.length ≤ i ∧ F i b) = S := funext fun b => propext ⟨fun h => (f4 b).2 (h.elim (fun ⟨i, _, h⟩ => ⟨i, h⟩) fun ⟨i, _, h⟩ => ⟨i, h⟩), fun h => by
    obtain ⟨i, hi⟩ := (f4 b).1 h
    rcases Nat.lt_or_ge i A.length with hl | hl
    · exact Or.inl ⟨i, hl, hi⟩
    · exact Or.inr ⟨i, hl, hi⟩⟩
  rwa [e] at hj
/-- The last one is things side by side. -/
theorem St.unfold {A B : List Res} (h : St w0 S0 w (A ++ [R])) (hr : ∀ S, R w S → Star B w S) : St w0 S0 w (A ++ B) := by
  obtain ⟨S, ⟨F, f1, f2, f3, f4⟩, hd⟩ := h
  refine ⟨S, ?_, hd⟩
  have hA : Star A w (fun b => ∃ i, i < A.length ∧ F i b) := ⟨fun i b => i < A.length ∧ F i b, fun i R hR => by
      have hi : i < A.length := by
        rcases Nat.lt_or_ge i A.length with h | h
        · exact h
        · rw [List.getElem?_eq_none h] at hR; cases hR
      have e : (fun b => i < A.length ∧ F i b) = F i := funext fun b => propext ⟨fun h => h.2, fun h => ⟨hi, h⟩⟩
      dsimp only; rw [e]; exact f1 i R (by rw [List.getElem?_append_left hi]; exact hR), fun i j b hi hj => f2 i j b hi.2 hj.2, fun i b hi => hi.1, fun b => Iff.rfl⟩
  have hB := hr _ (f1 A.length R (by simp)).2
  have hj := Star.append hA hB (fun b ⟨i, hi, h1⟩ h2 => by have := f2 i _ b h1 h2; omega)
  have e : (fun b => (∃ i, i < A.length ∧ F i b) ∨ F A.length b) = S := funext fun b => propext ⟨fun h => (f4 b).2 (h.elim (fun ⟨i, _, h⟩ => ⟨i, h⟩) fun h => ⟨_, h⟩), fun h => by
    obtain ⟨i, hi⟩ := (f4 b).1 h
    have hl := f3 i b hi
    simp at hl
    rcases Nat.lt_or_ge i A.length with hl' | hl'
    · exact Or.inl ⟨i, hl', hi⟩
    · obtain rfl : i = A.length := by omega
      exact Or.inr hi⟩
  rwa [e] at hj
theorem St.fin (h : St w0 S0 w L) {R : Res} (hr : ∀ S, Star L w S → R w S) : ∃ S', R w S' ∧ Did S0 S' w0 w := by
  obtain ⟨S, hs, hd⟩ := h; exact ⟨S, hr S hs, hd⟩
end
/-- A block that is known whole. -/
def BlkR (g : Nat) (t : TypeId) (cs : Array Value) : Res := fun w S => Blk w g t cs ∧ ∀ b, S b ↔ b = g
theorem BlkR.ok (g : Nat) (t : TypeId) (cs : Array Value) : Ok (BlkR g t cs) :=
  ⟨fun ⟨h, hs⟩ b hb => by rw [(hs b).1 hb]; exact h.lt, fun ⟨h, hs⟩ hk => ⟨(hk g ((hs g).2 rfl)).trans h, hs⟩⟩
/-- A row of one's own behind a slice; it may be nil. -/
def RowR (e : TypeId) (size : Nat) (v : Value) (n : Nat) (xs : List Value) : Res := fun w S => w.ownsRow 0 e size v n xs ∧ ∀ b, S b ↔ v.ownBlock = some b
theorem RowR.ok (e : TypeId) (size : Nat) (v : Value) (n : Nat) (xs : List Value) : Ok (RowR e size v n xs) := by
  refine ⟨fun {w S} ⟨⟨_, h⟩, hs⟩ b hb => ?_, fun {w w' S} ⟨⟨hl, h⟩, hs⟩ hk => ⟨⟨hl, ?_⟩, hs⟩⟩
  · have hb := (hs b).1 hb
    rcases h with ⟨rfl, _⟩ | ⟨g, cap, cur, rfl, _, hh, _⟩
    · simp [Value.ownBlock] at hb
    · obtain rfl : g = b := by simpa [Value.ownBlock] using hb
      rcases Nat.lt_or_ge g w.heap.size with hlt | hge
      · exact hlt
      · rw [Array.getElem?_eq_none hge] at hh; cases hh
  · rcases h with h | ⟨g, cap, cur, rfl, h0, hh, h1⟩
    · exact Or.inl h
    · exact Or.inr ⟨g, cap, cur, rfl, h0, (hk g ((hs g).2 rfl)).trans hh, h1⟩
section
variable {w0 w w' : World} {S0 : Nat → Prop} {L N : List Res} {g : Nat} {t : TypeId} {cs : Array Value}
theorem St.blk (h : St w0 S0 w L) (i : Nat) (hi : L[i]? = some (BlkR g t cs)) : Blk w g t cs := by obtain ⟨S, hb, _⟩ := h.get i hi; exact hb
theorem St.row {e : TypeId} {size n : Nat} {v : Value} {xs : List Value} (h : St w0 S0 w L) (i : Nat) (hi : L[i]? = some (RowR e size v n xs)) : w.ownsRow 0 e size v n xs := by obtain ⟨S, hb, _⟩ := h.get i hi; exact hb
theorem St.box (h : St w0 S0 w L) (t : TypeId) (cs : Array Value) : St w0 S0 (w.alloc (.cells cs t)) (L ++ [BlkR w.heap.size t cs]) :=
  h.more ((Below.refl _ _).alloc (Nat.le_refl _) _) (Star.one (BlkR.ok _ _ _) ⟨Blk.new w t cs, fun b => Iff.rfl⟩) (fun b hb => by have hb : b = w.heap.size := hb; omega)
theorem St.set_ (h : St w0 S0 w L) (i : Nat) (hi : L[i]? = some (BlkR g t cs)) (k : Nat) (u : Value) : St w0 S0 (w.setCell ⟨g, k, none⟩ u) (L.set i (BlkR g t (cs.setIfInBounds k u))) :=
  h.turn hi (BlkR.ok _ _ _) fun T ⟨hb, hT⟩ => ⟨T, ⟨hb.set_ k u, hT⟩, Did.of_only ((Only.refl g w).set_ k u) ((hT g).2 rfl) fun b h => Or.inl h⟩
/-- The block was turned. -/
theorem St.blk_turn {cs' : Array Value} (h : St w0 S0 w L) (i : Nat) (hi : L[i]? = some (BlkR g t cs)) (hb : Blk w' g t cs') (ho : Only g w w') : St w0 S0 w' (L.set i (BlkR g t cs')) :=
  h.turn hi (BlkR.ok _ _ _) fun T ⟨_, hT⟩ => ⟨T, ⟨hb, hT⟩, Did.of_only ho ((hT g).2 rfl) fun b h => Or.inl h⟩
/-- The row was appended to. -/
theorem St.push {e : TypeId} {size n n' : Nat} {v v' : Value} {xs xs' : List Value} (h : St w0 S0 w L) (i : Nat) (hi : L[i]? = some (RowR e size v n xs)) (hown : w'.ownsRow 0 e size v' n' xs') (hg : w.grownBy w' v.ownBlock)
    (hat : v'.ownBlock = v.ownBlock ∨ ∃ g, v'.ownBlock = some g ∧ w.heap.size ≤ g) : St w0 S0 w' (L.set i (RowR e size v' n' xs')) :=
  h.turn hi (RowR.ok _ _ _ _ _) fun T ⟨hb, hT⟩ => ⟨fun b => v'.ownBlock = some b, ⟨hown, fun b => Iff.rfl⟩,
    ⟨hg.os, hg.tape, hg.output, hg.size, fun k hk hn => hg.block k hk fun e => hn ((hT k).2 e.symm), fun b hb => by
      rcases hat with h | ⟨g, h, hle⟩
      · exact Or.inl ((hT b).2 (h ▸ hb))
      · rw [h] at hb; injection hb with hb; exact Or.inr (hb ▸ hle)⟩⟩
end
/-- One thing is known by less, or otherwise. -/
theorem St.weak {w0 w : World} {S0 : Nat → Prop} {L : List Res} {R R' : Res} (h : St w0 S0 w L) (i : Nat) (hi : L[i]? = some R) (ho : Ok R') (hr : ∀ S, R w S → R' w S) : St w0 S0 w (L.set i R') :=
  h.turn hi ho fun T hT => ⟨T, hr T hT, Did.refl T w⟩
/-- A row of n cells of one's own, the i-th is V i. -/
def ArrR (g : Nat) (t : TypeId) (n : Nat) (V : Nat → Value) : Res := fun w S => ∃ arr : Array Value, Blk w g t arr ∧ arr.size = n ∧ (∀ i, i < n → arr[i]? = some (V i)) ∧ ∀ b, S b ↔ b = g
theorem ArrR.ok (g : Nat) (t : TypeId) (n : Nat) (V : Nat → Value) : Ok (ArrR g t n V) :=
  ⟨fun ⟨arr, h, _, _, hs⟩ b hb => by rw [(hs b).1 hb]; exact h.lt, fun ⟨arr, h, h1, h2, hs⟩ hk => ⟨arr, (hk g ((hs g).2 rfl)).trans h, h1, h2, hs⟩⟩
section
variable {w0 w w' : World} {S0 : Nat → Prop} {L : List Res} {g n : Nat} {t : TypeId} {V : Nat → Value}
theorem St.arr_cell (h : St w0 S0 w L) (i : Nat) (hi : L[i]? = some (ArrR g t n V)) {k : Nat} (hk : k < n) : w.cell? ⟨g, k, none⟩ = some (V k) := by
  obtain ⟨S, arr, hb, hz, ha, _⟩ := h.get i hi; rw [hb.cell]; exact ha k hk
theorem St.arr_frozen (h : St w0 S0 w L) (i : Nat) (hi : L[i]? = some (ArrR g t n V)) (k : Nat) : w.frozen? ⟨g, k, none⟩ = false := by
  obtain ⟨S, arr, hb, hz, ha, _⟩ := h.get i hi; exact hb.frozen k
theorem St.arr_lt (h : St w0 S0 w L) (i : Nat) (hi : L[i]? = some (ArrR g t n V)) : g < w.heap.size := by
  obtain ⟨S, arr, hb, hz, ha, _⟩ := h.get i hi; exact hb.lt
theorem St.arr_set (h : St w0 S0 w L) (i : Nat) (hi : L[i]? = some (ArrR g t n V)) {k : Nat} (hk : k < n) (u : Value) : St w0 S0 (w.setCell ⟨g, k, none⟩ u) (L.set i (ArrR g t n (fun j => if j = k then u else V j))) :=
  h.turn hi (ArrR.ok _ _ _ _) fun T ⟨arr, hb, hz, ha, hT⟩ => ⟨T, ⟨_, hb.set_ k u, by simpa using hz, fun j hj => by
    by_cases e : j = k
    · subst e; dsimp only; rw [Array.getElem?_setIfInBounds_self_of_lt (by omega), if_pos rfl]
    · dsimp only; rw [Array.getElem?_setIfInBounds_ne (by omega), if_neg e]; exact ha j hj, hT⟩, Did.of_only ((Only.refl g w).set_ k u) ((hT g).2 rfl) fun b h => Or.inl h⟩
theorem St.arr_like (h : St w0 S0 w L) (i : Nat) (hi : L[i]? = some (ArrR g t n V)) {V' : Nat → Value} (hv : ∀ j, j < n → V' j = V j) : St w0 S0 w (L.set i (ArrR g t n V')) :=
  h.turn hi (ArrR.ok _ _ _ _) fun T ⟨arr, hb, hz, ha, hT⟩ => ⟨T, ⟨arr, hb, hz, fun j hj => by rw [hv j hj]; exact ha j hj, hT⟩, Did.refl T w⟩
/-- A row was made. -/
theorem St.make (h : St w0 S0 w L) {B : Nat} {z : Value} (hz : z.cells = #[z]) (hown : w'.ownsRow B t 1 (.slice (some ⟨w.heap.size, 0, none⟩) n n) n (madeCells z.cells (n * 1)).toList) (hg : w.grownBy w' none) : St w0 S0 w' (L ++ [ArrR w.heap.size t n (fun _ => z)]) := by
  obtain ⟨hl, hf⟩ := hown
  rcases hf with ⟨hv, _⟩ | ⟨g', cap, cur, hv, hb, hh, hn, hm, hs, ht⟩
  · cases hv
  · injection hv with hA _ hc
    injection hA with hA
    injection hA with hA
    subst hA; subst hc
    refine h.more ⟨hg.os, hg.tape, hg.output, hg.size, fun k hk => hg.block k hk (by simp)⟩ (Star.one (ArrR.ok _ _ _ _) ⟨cur, hh, by simpa using hs, fun i hi => ?_, fun b => Iff.rfl⟩) (fun b hb => by have hb : b = w.heap.size := hb; omega)
    have e : cur.toList[i]? = (madeCells z.cells (n * 1)).toList[i]? := by rw [← ht, List.getElem?_take_of_lt (by omega)]
    rw [hz] at e
    have e2 : (madeCells #[z] (n * 1)).toList[i]? = some z := by simp [madeCells, hi, Nat.mod_one]
    rw [e2] at e
    simpa using e
end
theorem row_less {w : World} {B : Nat} {e : TypeId} {size n : Nat} {v : Value} {xs : List Value} (h : w.ownsRow B e size v n xs) : w.ownsRow 0 e size v n xs := by
  refine ⟨h.1, ?_⟩
  rcases h.2 with h | ⟨g, cap, cur, hv, hb, hh⟩
  · exact Or.inl h
  · exact Or.inr ⟨g, cap, cur, hv, Nat.zero_le _, hh⟩
/-- A new row, from base on. -/
theorem St.rowed {w0 w w' : World} {S0 : Nat → Prop} {L : List Res} {e : TypeId} {size n : Nat} {v : Value} {xs : List Value} (h : St w0 S0 w L) (hb : Below w.heap.size w w') (hown : w'.ownsRow w.heap.size e size v n xs) : St w0 S0 w' (L ++ [RowR e size v n xs]) :=
  h.more hb (Star.one (RowR.ok _ _ _ _ _) ⟨row_less hown, fun b => Iff.rfl⟩) (fun b hb => by
    have hb : v.ownBlock = some b := hb
    rcases hown.2 with ⟨rfl, _⟩ | ⟨g, cap, cur, rfl, hg, _⟩
    · simp [Value.ownBlock] at hb
    · obtain rfl : g = b := by simpa [Value.ownBlock] using hb
      exact hg)
/-- A row's shape: its slice, and its cells. -/
theorem St.row_cells {w0 w : World} {S0 : Nat → Prop} {L : List Res} {e : TypeId} {size n : Nat} {v : Value} {xs : List Value} (h : St w0 S0 w L) (i : Nat) (hi : L[i]? = some (RowR e size v n xs)) :
    ∃ A cap, v = .slice A n cap ∧ n ≤ cap ∧ cap ≤ maxLen ∧ xs.length = n * size ∧ (0 < n → ∃ g, A = some ⟨g, 0, none⟩ ∧ ∀ j u, xs[j]? = some u → w.cell? ⟨g, j, none⟩ = some u) := by
  have h := h.row i hi
  obtain ⟨hl, h⟩ := h
  rcases h with ⟨rfl, rfl⟩ | ⟨g, cap, cur, rfl, hb, hh, hn, hm, hs, ht⟩
  · exact ⟨none, 0, rfl, Nat.le_refl _, by unfold maxLen; omega, hl, fun h => absurd h (by omega)⟩
  · refine ⟨_, cap, rfl, hn, hm, hl, fun _ => ⟨g, rfl, fun j u hu => ?_⟩⟩
    have hj : j < n * size := by
      rcases Nat.lt_or_ge j xs.length with h | h
      · omega
      · rw [List.getElem?_eq_none h] at hu; cases hu
    rw [← ht, List.getElem?_take_of_lt hj] at hu
    simpa [World.cell?, hh] using hu
/-- A call that turns one thing: known by itself, it is known beside others. -/
theorem St.call {P : Program} {f : FuncId} {args : Array Value} {R R' : Res} {Post : Ending → Prop} (c : ∀ w S, R w S → Calls P f args w fun e w' => Post e ∧ ∃ S', R' w' S' ∧ Did S S' w w') (ho : Ok R')
    {w0 w : World} {S0 : Nat → Prop} {L : List Res} (h : St w0 S0 w L) (i : Nat) (hi : L[i]? = some R) : Calls P f args w fun e w' => Post e ∧ St w0 S0 w' (L.set i R') := by
  obtain ⟨S, hs, hd⟩ := h
  have hl := (Star.ok L).lt hs
  obtain ⟨T, hT, hok, hTS, hput⟩ := hs.split hi
  refine (c w T hT).mono ?_
  rintro e w' ⟨hP, T', hT', hdid⟩
  refine ⟨hP, _, hput w' R' T' ho hT' (fun b hb hn => hdid.block b (hl b hb) hn) (fun b hb => (hdid.own b hb).imp id fun h => fun h2 => by have := hl b h2; omega), ?_⟩
  exact ⟨hdid.os.trans hd.os, hdid.tape.trans hd.tape, hdid.output.trans hd.output, Nat.le_trans hd.size hdid.size,
    fun k hk hn => (hdid.block k (Nat.lt_of_lt_of_le hk hd.size) fun hkT => by rcases hd.own k (hTS k hkT) with h | h; exact hn h; omega).trans (hd.block k hk hn),
    fun b hb => by
      rcases hb with ⟨h1, _⟩ | h1
      · exact hd.own b h1
      · rcases hdid.own b h1 with h2 | h2
        · exact hd.own b (hTS b h2)
        · exact Or.inr (Nat.le_trans hd.size h2)⟩
theorem cell_alloc {w : World} {a : Addr} {v : Value} (h : w.cell? a = some v) (o : Obj) : (w.alloc o).cell? a = some v := by
  have hlt : a.block < w.heap.size := by
    rcases Nat.lt_or_ge a.block w.heap.size with hlt | hge
    · exact hlt
    · unfold World.cell? at h; rw [Array.getElem?_eq_none hge] at h; cases h
  rw [World.cell?_alloc_lt w o a hlt]; exact h
theorem St.made_row {w0 w : World} {S0 : Nat → Prop} {L : List Res} (h : St w0 S0 w L) (t : TypeId) (n : Nat) (z : Value) : St w0 S0 (w.alloc (.cells (madeCells #[z] n) t)) (L ++ [ArrR w.heap.size t n (fun _ => z)]) :=
  h.more ((Below.refl _ _).alloc (Nat.le_refl _) _) (Star.one (ArrR.ok _ _ _ _) ⟨_, Blk.new w t _, by simp [madeCells], fun i hi => by simp [madeCells, hi, Nat.mod_one], fun b => Iff.rfl⟩) (fun b hb => by have hb : b = w.heap.size := hb; omega)
theorem Blk.three {w : World} {g : Nat} {t : TypeId} {x y z : Value} (h : Blk w g t #[x, y, z]) : w.cell? ⟨g, 0, none⟩ = some x ∧ w.cell? ⟨g, 1, none⟩ = some y ∧ w.cell? ⟨g, 2, none⟩ = some z :=
  ⟨by have := h.cell 0; simpa using this, by have := h.cell 1; simpa using this, by have := h.cell 2; simpa using this⟩
theorem Blk.four {w : World} {g : Nat} {t : TypeId} {x y z u : Value} (h : Blk w g t #[x, y, z, u]) : w.cell? ⟨g, 0, none⟩ = some x ∧ w.cell? ⟨g, 1, none⟩ = some y ∧ w.cell? ⟨g, 2, none⟩ = some z ∧ w.cell? ⟨g, 3, none⟩ = some u :=
  ⟨by have := h.cell 0; simpa using this, by have := h.cell 1; simpa using this, by have := h.cell 2; simpa using this, by have := h.cell 3; simpa using this⟩
/-- Three rows are made, in any order, and a struct of them. -/
theorem three_made (w : World) (n : Nat) (tx ty tz : TypeId) (x y z : Value) (t : TypeId) (cs : Array Value) :
    St w None ((((w.alloc (.cells (madeCells #[x] n) tx)).alloc (.cells (madeCells #[y] n) ty)).alloc (.cells (madeCells #[z] n) tz)).alloc (.cells cs t)).drew
      [ArrR w.heap.size tx n (fun _ => x), ArrR (w.heap.size + 1) ty n (fun _ => y), ArrR (w.heap.size + 1 + 1) tz n (fun _ => z), BlkR (w.heap.size + 1 + 1 + 1) t cs] := by
  have h := (((((St.begin w).made_row tx n x).made_row ty n y).made_row tz n z).box t cs).drew
  simpa using h
/-- make with a length that is known, at every world. -/
theorem run_make_rowN {P : Program} (t e : TypeId) (i : TypeInfo) (z : Value) (ht : P.underlying t = some (.slice e)) (hi : P.info? e = some i) (hz : i.zero = some z) (hz1 : z.cells = #[z]) (hs : i.size = 1)
    (kl kc : IntKind) (n : Nat) (hbytes : i.bytes * n ≤ 281474976710656) (h63 : n ≤ 9223372036854775807) (w : World) :
    (Instr.makeSlice t (.int kl (n : Int)) (.int kc (n : Int))).run P w = .ok (.slice (some ⟨w.heap.size, 0, none⟩) n n) (w.alloc (.cells (madeCells #[z] n) e)) := by
  have hb : (i.bytes : Int) * (n : Int) ≤ 281474976710656 := by
    have h : ((i.bytes * n : Nat) : Int) ≤ 281474976710656 := by omega
    rwa [Int.natCast_mul] at h
  have hr := run_make (P := P) w t e i z ht hi hz kl kc n n (by omega) (by omega) hb (by omega)
  simp only [Int.toNat_natCast, hs, hz1, Nat.mul_one] at hr
  exact hr
/-- What a call does with one thing: it is another one then, with new things. -/
def Meth (P : Program) (f : FuncId) (args : Array Value) (R : Res) (Post : Ending → Res → List Res → Prop) : Prop :=
  ∀ w S, R w S → Calls P f args w fun e w' => ∃ R' N, Post e R' N ∧ Ok R' ∧ ∃ S', Star (R' :: N) w' S' ∧ Did S S' w w'
theorem Meth.on {P : Program} {f : FuncId} {args : Array Value} {R : Res} {Post : Ending → Res → List Res → Prop} (c : Meth P f args R Post) {w0 w : World} {S0 : Nat → Prop} {L : List Res} (h : St w0 S0 w L) (i : Nat) (hi : L[i]? = some R) :
    Calls P f args w fun e w' => ∃ R' N, Post e R' N ∧ St w0 S0 w' (L.set i R' ++ N) := by
  obtain ⟨S, hs, hd⟩ := h
  have hl := (Star.ok L).lt hs
  obtain ⟨T, hT, hok, hTS, hput⟩ := hs.split hi
  refine (c w T hT).mono ?_
  rintro e w' ⟨R', N, hP, ho, S', ⟨F, f1, f2, f3, f4⟩, hdid⟩
  refine ⟨R', N, hP, ?_⟩
  have h0 : R' w' (F 0) := (f1 0 R' rfl).2
  have hA := hput w' R' (F 0) ho h0 (fun b hb hn => hdid.block b (hl b hb) hn) (fun b hb => (hdid.own b ((f4 b).2 ⟨0, hb⟩)).imp id fun h => fun h2 => by have := hl b h2; omega)
  have hN : Star N w' (fun b => ∃ i, F (i + 1) b) := ⟨fun i b => F (i + 1) b, fun i R hR => f1 (i + 1) R (by simpa using hR), fun i j b hi hj => by have := f2 _ _ b hi hj; omega, fun i b hi => by have := f3 _ b hi; simp at this; omega, fun b => Iff.rfl⟩
  have hj := Star.append hA hN (fun b h1 ⟨j, h2⟩ => by
    rcases h1 with ⟨h1, h3⟩ | h1
    · rcases hdid.own b ((f4 b).2 ⟨_, h2⟩) with h4 | h4
      · exact h3 h4
      · have := hl b h1; omega
    · have := f2 _ _ b h1 h2; omega)
  refine ⟨_, hj, hdid.os.trans hd.os, hdid.tape.trans hd.tape, hdid.output.trans hd.output, Nat.le_trans hd.size hdid.size,
    fun k hk hn => (hdid.block k (Nat.lt_of_lt_of_le hk hd.size) fun hkT => by rcases hd.own k (hTS k hkT) with h | h; exact hn h; omega).trans (hd.block k hk hn), fun b hb => ?_⟩
  have key : ∀ i, F i b → S0 b ∨ w0.heap.size ≤ b := fun i hi => by
    rcases hdid.own b ((f4 b).2 ⟨i, hi⟩) with h2 | h2
    · exact hd.own b (hTS b h2)
    · exact Or.inr (Nat.le_trans hd.size h2)
  rcases hb with (⟨h1, _⟩ | h1) | ⟨j, h1⟩
  · exact hd.own b h1
  · exact key 0 h1
  · exact key _ h1
/-- What a call makes. -/
def Makes (P : Program) (f : FuncId) (args : Array Value) (Post : Ending → List Res → Prop) : Prop :=
  ∀ w, Calls P f args w fun e w' => ∃ N, Post e N ∧ ∃ S', Star N w' S' ∧ (∀ b, S' b → w.heap.size ≤ b) ∧ Below w.heap.size w w'
theorem Makes.on {P : Program} {f : FuncId} {args : Array Value} {Post : Ending → List Res → Prop} (c : Makes P f args Post) {w0 w : World} {S0 : Nat → Prop} {L : List Res} (h : St w0 S0 w L) :
    Calls P f args w fun e w' => ∃ N, Post e N ∧ St w0 S0 w' (L ++ N) :=
  (c w).mono fun e w' ⟨N, hP, S', hs, hf, hb⟩ => ⟨N, hP, h.more hb hs hf⟩
theorem St.made {w w' : World} {L : List Res} (h : St w None w' L) : ∃ S', Star L w' S' ∧ (∀ b, S' b → w.heap.size ≤ b) ∧ Below w.heap.size w w' := by
  obtain ⟨S, hs, hd⟩ := h
  exact ⟨S, hs, fun b hb => (hd.own b hb).elim (fun h => h.elim) id, hd.to_below⟩
/-- A call that only looks, or makes what nobody keeps in mind. -/
theorem looks {P : Program} {f : FuncId} {args : Array Value} {w : World} {v : Value} (c : Calls P f args w fun e w' => e = .returned v ∧ Below w.heap.size w w') {w0 : World} {S0 : Nat → Prop} {L : List Res} (h : St w0 S0 w L) :
    Calls P f args w fun e w' => e = .returned v ∧ St w0 S0 w' L := c.mono fun e w' ⟨he, hb⟩ => ⟨he, h.stay hb⟩
end Go.Proofs.YtdjhpdacglojaaaGreat
