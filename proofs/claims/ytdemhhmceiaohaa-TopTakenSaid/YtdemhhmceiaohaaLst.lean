/- Words for a list of one's own behind a slice: whole, or cut at its front with no room behind. Plain theorems; nothing of one law. -/
import Derived.Test.YtdemhhmceiaohaaObj
import Derived.Deep.AppendLies
import Derived.Deep.RegionLaw
import Derived.Maps.AppendAt
import Derived.ArgAppend
import Derived.OwnWalk
namespace Go.Proofs.Ytdemhhmceiaohaa
open Go.RowKit
set_option linter.unusedVariables false
/-- The slice v of n elements of type e (one cell each) holds xs, in a block from base on. -/
def Lst (w : World) (base : Nat) (e : TypeId) (v : Value) (n : Nat) (xs : List Value) : Prop :=
  w.ownsRow base e 1 v n xs ∨
  ∃ g off arr, v = .slice (some ⟨g, off, none⟩) n n ∧ base ≤ g ∧ w.heap[g]? = some (.cells arr e (0, 0)) ∧ n ≤ maxLen ∧ xs.length = n ∧ ∀ j u, xs[j]? = some u → arr[off + j]? = some u
section
variable {w w' : World} {base : Nat} {e : TypeId} {v : Value} {n : Nat} {xs : List Value}
theorem Lst.nil (w : World) (base : Nat) (e : TypeId) : Lst w base e (.slice none 0 0) 0 [] := Or.inl ⟨by simp, Or.inl ⟨rfl, rfl⟩⟩
theorem Lst.len (h : Lst w base e v n xs) : xs.length = n := by
  rcases h with h | ⟨_, _, _, _, _, _, _, h, _⟩
  · simpa using h.1
  · exact h
/-- Its shape, and its cells. -/
theorem Lst.shape (h : Lst w base e v n xs) : ∃ A cap, v = .slice A n cap ∧ n ≤ cap ∧ cap ≤ maxLen ∧
    (0 < n → ∃ g off, A = some ⟨g, off, none⟩ ∧ base ≤ g ∧ g < w.heap.size ∧ ∀ j u, xs[j]? = some u → w.cell? ⟨g, off + j, none⟩ = some u) := by
  rcases h with ⟨hl, h⟩ | ⟨g, off, arr, rfl, hb, hh, hm, hl, hx⟩
  · rcases h with ⟨rfl, rfl⟩ | ⟨g, cap, cur, rfl, hb, hh, hn, hm, hs, ht⟩
    · exact ⟨none, 0, rfl, Nat.le_refl _, by unfold maxLen; omega, fun h => absurd h (by omega)⟩
    · refine ⟨_, cap, rfl, hn, hm, fun _ => ⟨g, 0, rfl, hb, ?_, fun j u hu => ?_⟩⟩
      · rcases Nat.lt_or_ge g w.heap.size with hlt | hge
        · exact hlt
        · rw [Array.getElem?_eq_none hge] at hh; cases hh
      · have hj : j < n * 1 := by
          rcases Nat.lt_or_ge j xs.length with h | h
          · omega
          · rw [List.getElem?_eq_none h] at hu; cases hu
        rw [← ht, List.getElem?_take_of_lt hj] at hu
        simpa [World.cell?, hh] using hu
  · refine ⟨_, n, rfl, Nat.le_refl _, hm, fun _ => ⟨g, off, rfl, hb, ?_, fun j u hu => ?_⟩⟩
    · rcases Nat.lt_or_ge g w.heap.size with hlt | hge
      · exact hlt
      · rw [Array.getElem?_eq_none hge] at hh; cases hh
    · simpa [World.cell?, hh] using hx j u hu
theorem Lst.block (h : Lst w base e v n xs) {g : Nat} (hg : v.ownBlock = some g) : base ≤ g ∧ ∃ arr, w.heap[g]? = some (.cells arr e (0, 0)) := by
  rcases h with ⟨_, h⟩ | ⟨g', off, arr, rfl, hb, hh, _⟩
  · rcases h with ⟨rfl, _⟩ | ⟨g', cap, cur, rfl, hb, hh, _⟩
    · simp [Value.ownBlock] at hg
    · obtain rfl : g' = g := by simpa [Value.ownBlock] using hg
      exact ⟨hb, _, hh⟩
  · obtain rfl : g' = g := by simpa [Value.ownBlock] using hg
    exact ⟨hb, _, hh⟩
theorem Lst.ne_ (h : Lst w base e v n xs) {g : Nat} {t : TypeId} {cs : Array Value} (hb : Blk w g t cs) (hne : e ≠ t) : v.ownBlock ≠ some g := fun he => by
  obtain ⟨_, arr, ha⟩ := h.block he
  unfold Blk at hb
  rw [ha] at hb
  injection hb with hb
  injection hb with _ ht
  exact hne ht
/-- Where its block is as it was, it is as it was. -/
theorem Lst.keep (h : Lst w base e v n xs) (hk : ∀ g, v.ownBlock = some g → w'.heap[g]? = w.heap[g]?) : Lst w' base e v n xs := by
  rcases h with ⟨hl, h⟩ | ⟨g, off, arr, rfl, hb, hh, r⟩
  · refine Or.inl ⟨hl, ?_⟩
    rcases h with h | ⟨g, cap, cur, rfl, hb, hh, r⟩
    · exact Or.inl h
    · exact Or.inr ⟨g, cap, cur, rfl, hb, (hk g rfl).trans hh, r⟩
  · exact Or.inr ⟨g, off, arr, rfl, hb, (hk g rfl).trans hh, r⟩
theorem Lst.lt (h : Lst w base e v n xs) {g : Nat} (hg : v.ownBlock = some g) : g < w.heap.size := by
  obtain ⟨_, arr, ha⟩ := h.block hg
  rcases Nat.lt_or_ge g w.heap.size with hlt | hge
  · exact hlt
  · rw [Array.getElem?_eq_none hge] at ha; cases ha
theorem Lst.drewN (h : Lst w base e v n xs) (k : Nat) : Lst (w.drewN k) base e v n xs := h.keep fun _ _ => rfl
theorem Lst.drew (h : Lst w base e v n xs) : Lst w.drew base e v n xs := h.keep fun _ _ => rfl
theorem Lst.alloc (h : Lst w base e v n xs) (o : Obj) : Lst (w.alloc o) base e v n xs := h.keep fun g hg => Below.heap_alloc w o g (h.lt hg)
theorem Lst.setCell (h : Lst w base e v n xs) {p : Addr} (hp : v.ownBlock ≠ some p.block) (u : Value) : Lst (w.setCell p u) base e v n xs :=
  h.keep fun g hg => Below.heap_setCell w p u g (fun he => hp (by rw [hg, he]))
theorem Lst.only {b : Nat} (h : Lst w base e v n xs) (ho : Only b w w') (hb : v.ownBlock ≠ some b) : Lst w' base e v n xs :=
  h.keep fun g hg => ho.block g (h.lt hg) (fun he => hb (by rw [hg, he]))
theorem Lst.stay (h : Lst w base e v n xs) (hb : Below w.heap.size w w') : Lst w' base e v n xs := h.keep fun g hg => hb.block g (h.lt hg)
theorem Lst.base_le {base' : Nat} (h : Lst w base e v n xs) (hb : base' ≤ base) : Lst w base' e v n xs := by
  rcases h with ⟨hl, h⟩ | ⟨g, off, arr, hv, hg, r⟩
  · refine Or.inl ⟨hl, ?_⟩
    rcases h with h | ⟨g, cap, cur, hv, hg, r⟩
    · exact Or.inl h
    · exact Or.inr ⟨g, cap, cur, hv, Nat.le_trans hb hg, r⟩
  · exact Or.inr ⟨g, off, arr, hv, Nat.le_trans hb hg, r⟩
/-- Cut at its front, with no room behind. -/
theorem Lst.cut (h : Lst w base e v n xs) {A : Option Addr} {cap k : Nat} (hv : v = .slice A n cap) (hk : k ≤ n) (h0 : 0 < n) : ∃ g off, A = some ⟨g, off, none⟩ ∧
    (∀ o, (k < n → o = off + k) → Lst w base e (.slice (some ⟨g, o, none⟩) (n - k) (n - k)) (n - k) (xs.drop k)) := by
  subst hv
  have hl := h.len
  rcases h with ⟨_, h⟩ | ⟨g, off, arr, hv, hb, hh, hm, _, hx⟩
  · rcases h with ⟨hv, rfl⟩ | ⟨g, cp, cur, hv, hb, hh, hn, hm, hs, ht⟩
    · omega
    · injection hv with hA _ hc
      subst hA; subst hc
      refine ⟨g, 0, rfl, fun o ho => Or.inr ⟨g, o, cur, rfl, hb, hh, by omega, by simp; omega, fun j u hu => ?_⟩⟩
      rw [List.getElem?_drop] at hu
      have hj : k + j < n * 1 := by
        rcases Nat.lt_or_ge (k + j) xs.length with h | h
        · omega
        · rw [List.getElem?_eq_none h] at hu; cases hu
      rw [ho (by omega)]
      rw [← ht, List.getElem?_take_of_lt hj] at hu
      simpa using hu
  · injection hv with hA _ hc
    subst hA; subst hc
    refine ⟨g, off, rfl, fun o ho => Or.inr ⟨g, o, arr, rfl, hb, hh, by omega, by simp; omega, fun j u hu => ?_⟩⟩
    rw [List.getElem?_drop] at hu
    have hj : k + j < xs.length := by
      rcases Nat.lt_or_ge (k + j) xs.length with h | h
      · exact h
      · rw [List.getElem?_eq_none h] at hu; cases hu
    rw [ho (by omega), Nat.add_assoc]
    exact hx _ _ hu
end
theorem Blk.grown {w w' : World} {g : Nat} {t : TypeId} {cs : Array Value} {o : Option Nat} (h : Blk w g t cs) (hg : w.grownBy w' o) (hne : o ≠ some g) : Blk w' g t cs := by
  have hlt : g < w.heap.size := by
    rcases Nat.lt_or_ge g w.heap.size with hlt | hge
    · exact hlt
    · unfold Blk at h; rw [Array.getElem?_eq_none hge] at h; cases h
  unfold Blk at *
  rw [hg.block g hlt (fun he => hne he.symm)]
  exact h
/-- One element more: the run of the append. -/
theorem run_push {P : Program} {w : World} (base : Nat) (t ty e : TypeId) (i : TypeInfo) (z : Value) (bytes : Nat) (ht : P.underlying t = some (.slice e)) (hi : P.info? e = some i) (hz : i.zero = some z)
    (hsize : i.size = 1) (hby : i.bytes = bytes) (hzs : z.cells.size = 1) (v : Value) (n : Nat) (xs : List Value) (h : Lst w base e v n xs)
    (a : Addr) (u : Value) (hu : w.cell? a = some u) (h1 : u.oneCell' = true) (h63 : n + 1 ≤ maxLen) (hbytes : (n + 1) * bytes ≤ 140737488355328) (hbase : base ≤ w.heap.size) :
    ∃ v' w', (Builtin.append_ #[t, t] ty #[v, .slice (some a) 1 1]).run P w = .ok v' w' ∧ Lst w' base e v' (n + 1) (xs ++ [u]) ∧ w.grownBy w' v.ownBlock ∧ (v'.ownBlock = v.ownBlock ∨ ∃ g, v'.ownBlock = some g ∧ w.heap.size ≤ g) := by
  have hnews : ∀ j (x : Value), [u][j]? = some x → w.cell? (a.add j) = some x := fun j x hx => by
    cases j with
    | zero => simp at hx; subst hx; simpa [Addr.add] using hu
    | succ j => simp at hx
  rcases h with h | ⟨g, off, arr, rfl, hb, hh, hm, hl, hx⟩
  · obtain ⟨v', w', hr, ho, hg, _, hat⟩ := run_append_own_at (P := P) (w := w) base t ty e i z 1 bytes ht hi hz hsize hby hzs (by omega) v n xs h a 1 1 [u] (by simp) hnews (by simpa using h1) h63 hbytes hbase
    exact ⟨v', w', hr, Or.inl ho, hg, hat.imp id fun h => ⟨_, h, Nat.le_refl _⟩⟩
  · obtain ⟨v', w', hr, ho, hg⟩ := run_append_arg_grows (P := P) w t ty e i z 1 bytes ht hi hz hsize hby hzs (by omega) ⟨g, off, none⟩ n n xs (by omega) (fun j x hj => by
        rw [Go.WideShapes.add_plain]; simpa [World.cell?, hh] using hx j x hj) a 1 1 [u] (by simp) hnews (by omega) h63 hbytes
    have hform := ho.2
    have hown : ∃ g', v'.ownBlock = some g' ∧ w.heap.size ≤ g' := by
      rcases hform with ⟨_, h0⟩ | ⟨g', cap, cur, rfl, hg', _⟩
      · omega
      · exact ⟨g', rfl, hg'⟩
    refine ⟨v', w', hr, (Lst.base_le (base := w.heap.size) (Or.inl ho) hbase), ⟨hg.os, hg.tape, hg.output, hg.size, fun k hk hne => hg.block k hk (by simp)⟩, Or.inr hown⟩
/-- The same, as a step of a region that draws its order. -/
theorem step_push {P : Program} {w : World} {ops : Array Oper} {o : Oper} {a : Act} {K : Act → World → Prop} {Q : Exit → Act → World → Prop} {E : Prop} (hgd : o.guard = none) (s x : Operand) (t : TypeId)
    (ho : o.op = .call { callee := .builtin .append, args := #[s, x], argTypes := #[t, t] })
    (base : Nat) (e : TypeId) (i : TypeInfo) (z : Value) (bytes : Nat) (ht : P.underlying t = some (.slice e)) (hi : P.info? e = some i) (hz : i.zero = some z)
    (hsize : i.size = 1) (hby : i.bytes = bytes) (hzs : z.cells.size = 1) (v : Value) (n : Nat) (xs : List Value) (hs : a.eval s = v) (h : Lst w base e v n xs)
    (ad : Addr) (u : Value) (hx : a.eval x = .slice (some ad) 1 1) (hu : w.cell? ad = some u) (h1 : u.oneCell' = true) (h63 : n + 1 ≤ maxLen) (hbytes : (n + 1) * bytes ≤ 140737488355328) (hbase : base ≤ w.heap.size)
    (hK : ∀ A cap w', Lst w' base e (.slice A (n + 1) cap) (n + 1) (xs ++ [u]) → w.grownBy w' v.ownBlock → ((Value.slice A (n + 1) cap).ownBlock = v.ownBlock ∨ ∃ g, (Value.slice A (n + 1) cap).ownBlock = some g ∧ w.heap.size ≤ g) → K (a.put o.dst (.slice A (n + 1) cap)) w') :
    if Region.wanted o (yielded ops a.tmps) = true then Oper.wp P o a w K Q else E := by
  have hw : Region.wanted o (yielded ops a.tmps) = true := by simp [Region.wanted, hgd]
  rw [if_pos hw]
  obtain ⟨v', w', hrun, h2, h3, h4⟩ := run_push (P := P) (w := w) base t o.type e i z bytes ht hi hz hsize hby hzs v n xs h ad u hu h1 h63 hbytes hbase
  unfold Oper.wp
  simp [execOp, ho, resolve, invoke, builtin, hs, hx, hrun, Result.andThen]
  obtain ⟨A, cap, rfl, _⟩ := h2.shape
  exact hK A cap w' h2 h3 h4
end Go.Proofs.Ytdemhhmceiaohaa
