/- Arguments of any shape, opened down to their cells: structs, arrays and slices of them, however they are nested. Plain theorems over any program; nothing of one law. -/
import Derived.Test.YtdjhpdacglojaaaGreatFlat
namespace Go.Proofs.YtdjhpdacglojaaaGreat
open Go.ChangeShapes Go.WideShapes Go.ChangeAt Go.RowKit Go.Deep
set_option linter.unusedVariables false
/-- Where each cell of a type lies, and of what type it is. -/
def spots (P : Program) : Nat → TypeId → Option (List (Nat × TypeId))
  | 0, _ => none
  | d + 1, t =>
    match P.underlying t with
    | some (.struct fs) => (fs.toList.mapM fun f => (spots P d f.type).map (·.map fun p => (f.offset + p.1, p.2))).map (·.flatten)
    | some (.array n e) => (spots P d e).map fun l => ((List.range n).map fun i => l.map fun p => (i * P.cellsOf e + p.1, p.2)).flatten
    | some _ => some [(0, t)]
    | none => none
theorem mapM_mem {α β : Type} {f : α → Option β} : ∀ {l : List α} {r : List β}, l.mapM f = some r → ∀ y ∈ r, ∃ x ∈ l, f x = some y
  | [], r, h, y, hy => by simp at h; subst h; cases hy
  | a :: l, r, h, y, hy => by
    simp only [List.mapM_cons, Option.bind_eq_bind, Option.bind_eq_some_iff] at h
    obtain ⟨b, hb, r', hr, he⟩ := h
    simp at he
    subst he
    rcases List.mem_cons.1 hy with e | e
    · subst e; exact ⟨a, by simp, hb⟩
    · obtain ⟨x, hx, hf⟩ := mapM_mem hr y e
      exact ⟨x, by simp [hx], hf⟩
section
variable {H : Type} {enc : TypeId × Value → H} {P : Program} {w : World} {base : Nat}
/-- One cell that reads as of a type. -/
def Leaf (enc : TypeId × Value → H) (P : Program) (w : World) (u : TypeId) (v : Value) : Prop := ∃ k y, DataW.trod enc P w 0 (fun _ => true) true k u [v] = some y
theorem leaf_one {t : TypeId} {fuel : Nat} {cs : List Value} {x : DataW H × List MemPlace} (hs : ∀ fs, P.underlying t ≠ some (.struct fs)) (ha : ∀ n e, P.underlying t ≠ some (.array n e))
    (h : DataW.trod enc P w base (fun _ => true) true fuel t cs = some x) : ∃ v, cs = [v] := by
  cases fuel with
  | zero => simp [DataW.trod] at h
  | succ n =>
    unfold DataW.trod at h
    split at h <;> first | exact ⟨_, rfl⟩ | exact absurd (by assumption) (hs _) | exact absurd (by assumption) (ha _ _) | (simp at h)
theorem trod_spots : ∀ (d : Nat) (t : TypeId) (l : List (Nat × TypeId)), spots P d t = some l → ∀ (fuel : Nat) (cs : List Value) (x : DataW H × List MemPlace), DataW.trod enc P w 0 (fun _ => true) true fuel t cs = some x →
    ∀ p ∈ l, ∃ v, cs[p.1]? = some v ∧ Leaf enc P w p.2 v
  | 0, t, l, h, _, _, _, _, _, _ => by simp [spots] at h
  | d + 1, t, l, h, fuel, cs, x, ht, p, hp => by
    unfold spots at h
    split at h
    · rename_i fs hu
      obtain ⟨xs, m, _, _, _, hxl, hf⟩ := DataW.trod_struct hu ht
      simp only [Option.map_eq_some_iff] at h
      obtain ⟨ls, hls, rfl⟩ := h
      obtain ⟨l1, hl1, hp1⟩ := List.mem_flatten.1 hp
      obtain ⟨f, hfm, hfe⟩ := mapM_mem hls l1 hl1
      simp only [Option.map_eq_some_iff] at hfe
      obtain ⟨l2, hl2, rfl⟩ := hfe
      obtain ⟨q, hq, rfl⟩ := List.mem_map.1 hp1
      obtain ⟨i, hi, hget⟩ := List.mem_iff_getElem.1 hfm
      have hfi : fs[i]? = some f := by rw [← Array.getElem?_toList, List.getElem?_eq_getElem hi, hget]
      have h1 := hf i f hfi
      have hil : i < xs.length := by rw [hxl]; simpa using hi
      rw [List.getElem?_eq_getElem hil] at h1
      obtain ⟨v, hv, hleaf⟩ := trod_spots d f.type l2 hl2 _ _ _ h1 q hq
      refine ⟨v, ?_, hleaf⟩
      rw [List.getElem?_take] at hv
      split at hv
      · rwa [List.getElem?_drop] at hv
      · cases hv
    · rename_i n e hu
      obtain ⟨xs, m, _, _, _, hxl, hf⟩ := DataW.trod_array hu ht
      simp only [Option.map_eq_some_iff] at h
      obtain ⟨l2, hl2, rfl⟩ := h
      obtain ⟨l1, hl1, hp1⟩ := List.mem_flatten.1 hp
      obtain ⟨i, him, rfl⟩ := List.mem_map.1 hl1
      obtain ⟨q, hq, rfl⟩ := List.mem_map.1 hp1
      have hi : i < n := by simpa using him
      have h1 := hf i hi
      rw [List.getElem?_eq_getElem (show i < xs.length by omega)] at h1
      obtain ⟨v, hv, hleaf⟩ := trod_spots d e l2 hl2 _ _ _ h1 q hq
      refine ⟨v, ?_, hleaf⟩
      rw [List.getElem?_take] at hv
      split at hv
      · rwa [List.getElem?_drop] at hv
      · cases hv
    · rename_i hs ha u
      injection h with h
      subst h
      simp at hp
      subst hp
      obtain ⟨v, rfl⟩ := leaf_one (t := t) (fun fs hfs => hs fs (by rw [u] at hfs; injection hfs)) (fun n e hne => ha n e (by rw [u] at hne; injection hne)) ht
      exact ⟨v, rfl, _, _, ht⟩
    · cases h
theorem leaf_int {u : TypeId} {k : IntKind} {v : Value} (hu : P.underlying u = some (.int k)) (h : Leaf enc P w u v) : ∃ z, v = .int k z ∧ (Lit.int k z).wf = true := by
  obtain ⟨n, y, hy⟩ := h
  obtain ⟨z, hz, _, hw⟩ := DataW.trod_int hu hy
  simp at hz
  exact ⟨z, hz, hw⟩
theorem leaf_bool {u : TypeId} {v : Value} (hu : P.underlying u = some .bool) (h : Leaf enc P w u v) : ∃ z, v = .bool z := by
  obtain ⟨n, y, hy⟩ := h
  obtain ⟨z, hz, _⟩ := DataW.trod_bool hu hy
  simp at hz
  exact ⟨z, hz⟩
theorem ints {k : IntKind} {n : Nat} {V : Nat → Value} (h : ∀ j, j < n → ∃ z, V j = .int k z ∧ (Lit.int k z).wf = true) : ∀ j, j < n → ∃ z, V j = .int k z := fun j hj => by obtain ⟨z, hz, _⟩ := h j hj; exact ⟨z, hz⟩
/-- A slice of elements of any shape: its cells, each that reads as of its type. -/
theorem leaf_slice {t e : TypeId} {m d : Nat} {l : List (Nat × TypeId)} {v : Value} (ht : P.underlying t = some (.slice e)) (hc : P.cellsOf e = m) (h0 : 0 < m) (hl : spots P d e = some l) (h : Leaf enc P w t v) :
    ∃ (A : Option Addr) (n cap : Nat) (V : Nat → Nat → Value), v = .slice A n cap ∧ n ≤ cap ∧ cap ≤ maxLen ∧ RdM w A n m V ∧ ∀ o u, (o, u) ∈ l → ∀ j, j < n → Leaf enc P w u (V j o) := by
  obtain ⟨fuel, x, hf⟩ := h
  rcases open_slice ht (cs := [v]) hf with ⟨hcs, _⟩ | ⟨a, len, cp, q, k, D, Pl, hcs, _, hl2, hmx, hmm, _, hx⟩
  · simp at hcs
    subst hcs
    exact ⟨none, 0, 0, fun _ _ => .int .i64 0, rfl, Nat.le_refl _, by unfold maxLen; omega, fun h => absurd h (by omega), fun _ _ _ j hj => absurd hj (by omega)⟩
  · simp at hcs
    subst hcs
    rw [hc] at hx
    have each : ∀ j, j < len → ∃ cs : List Value, (∀ i, i < m → w.cell? (a.add (j * m + i)) = some (cs.getD i (.int .i64 0))) ∧ ∀ o u, (o, u) ∈ l → Leaf enc P w u (cs.getD o (.int .i64 0)) := by
      intro j hj
      obtain ⟨cs', h1, h2⟩ := hx j (by simp at hmm; omega)
      obtain ⟨_, hlen, hcell⟩ := World.cells?_some h1
      refine ⟨cs', fun i hi => ?_, fun o u hou => ?_⟩
      · have := hcell i hi
        rw [add_add] at this
        rw [this]; simp [List.getD, List.getElem?_eq_getElem (show i < cs'.length by omega)]
      · obtain ⟨v, hv, hlf⟩ := trod_spots d e l hl _ _ _ h2 (o, u) hou
        have : cs'.getD o (.int .i64 0) = v := by simp [List.getD, hv]
        rw [this]; exact hlf
    obtain ⟨C, hC⟩ := choose_lt each
    refine ⟨some a, len, cp, fun j i => (C j).getD i (.int .i64 0), rfl, hl2, hmx, ?_, fun o u hou j hj => (hC j hj).2 o u hou⟩
    intro hn
    obtain ⟨b, off, spot⟩ := a
    have h00 := (hC 0 hn).1 0 h0
    have hspot : spot = none := by simpa [Addr.add] using World.cell?_spot h00
    subst hspot
    refine ⟨b, off, rfl, ?_, fun j hj i hi => by rw [← add_plain]; exact (hC j hj).1 i hi⟩
    have := block_lt h00
    simpa [Addr.add] using this
theorem open_slice_spots {t e : TypeId} {m d : Nat} {l : List (Nat × TypeId)} {v : Value} {dt : DataW H} {ps : List MemPlace} {r : Reach} {base : Nat} (ht : P.underlying t = some (.slice e)) (hc : P.cellsOf e = m) (h0 : 0 < m) (hl : spots P d e = some l)
    (hv : Value.okWide P w r base t v) (h : DataW.Trod enc P w 0 (fun _ => true) true t v dt ps) :
    ∃ (A : Option Addr) (n cap : Nat) (V : Nat → Nat → Value), v = .slice A n cap ∧ n ≤ cap ∧ cap ≤ maxLen ∧ RdM w A n m V ∧ ∀ o u, (o, u) ∈ l → ∀ j, j < n → Leaf enc P w u (V j o) := by
  obtain ⟨A, n, cap, rfl⟩ := okWide_slice ht hv
  obtain ⟨fuel, hf⟩ := h
  exact leaf_slice ht hc h0 hl ⟨fuel, _, hf⟩
/-- A struct, or an array, by value. -/
theorem open_agg_spots {t : TypeId} {d : Nat} {l : List (Nat × TypeId)} {v : Value} {dt : DataW H} {ps : List MemPlace} {r : Reach} {base : Nat} (ht : (∃ fs, P.underlying t = some (.struct fs)) ∨ (∃ n e, P.underlying t = some (.array n e))) (hl : spots P d t = some l)
    (hv : Value.okWide P w r base t v) (h : DataW.Trod enc P w 0 (fun _ => true) true t v dt ps) :
    ∃ cs : Array Value, v = .agg cs ∧ cs.size = P.cellsOf t ∧ ∀ o u, (o, u) ∈ l → ∀ x, cs[o]? = some x → Leaf enc P w u x := by
  have h2 : ∃ cs, v = .agg cs ∧ cs.size = P.cellsOf t ∧ Row.okWide P w r base t cs := by
    rcases ht with ⟨fs, ht⟩ | ⟨n, e, ht⟩ <;> simpa only [Value.okWide, ht] using hv
  obtain ⟨cs, rfl, hsz, _⟩ := h2
  obtain ⟨fuel, hf⟩ := h
  refine ⟨cs, rfl, hsz, fun o u hou x hx => ?_⟩
  obtain ⟨y, hy, hlf⟩ := trod_spots d t l hl _ _ _ hf (o, u) hou
  have : y = x := by
    have h1 : cs.toList[o]? = some x := by simpa using hx
    have h2 : (Value.agg cs).cells.toList[o]? = some y := hy
    simp [Value.cells] at h2
    rw [hx] at h2
    injection h2 with h2
    exact h2.symm
  rw [← this]; exact hlf
end
theorem size1 {α : Type} {cs : Array α} (h : cs.size = 1) : ∃ x0, cs = #[x0] := by
  obtain ⟨l⟩ := cs
  match l, h with
  | [x0], _ => exact ⟨x0, rfl⟩
theorem size7 {α : Type} {cs : Array α} (h : cs.size = 7) : ∃ x0 x1 x2 x3 x4 x5 x6, cs = #[x0, x1, x2, x3, x4, x5, x6] := by
  obtain ⟨l⟩ := cs
  match l, h with
  | [x0, x1, x2, x3, x4, x5, x6], _ => exact ⟨x0, x1, x2, x3, x4, x5, x6, rfl⟩
theorem size8 {α : Type} {cs : Array α} (h : cs.size = 8) : ∃ x0 x1 x2 x3 x4 x5 x6 x7, cs = #[x0, x1, x2, x3, x4, x5, x6, x7] := by
  obtain ⟨l⟩ := cs
  match l, h with
  | [x0, x1, x2, x3, x4, x5, x6, x7], _ => exact ⟨x0, x1, x2, x3, x4, x5, x6, x7, rfl⟩
theorem size9 {α : Type} {cs : Array α} (h : cs.size = 9) : ∃ x0 x1 x2 x3 x4 x5 x6 x7 x8, cs = #[x0, x1, x2, x3, x4, x5, x6, x7, x8] := by
  obtain ⟨l⟩ := cs
  match l, h with
  | [x0, x1, x2, x3, x4, x5, x6, x7, x8], _ => exact ⟨x0, x1, x2, x3, x4, x5, x6, x7, x8, rfl⟩
theorem size10 {α : Type} {cs : Array α} (h : cs.size = 10) : ∃ x0 x1 x2 x3 x4 x5 x6 x7 x8 x9, cs = #[x0, x1, x2, x3, x4, x5, x6, x7, x8, x9] := by
  obtain ⟨l⟩ := cs
  match l, h with
  | [x0, x1, x2, x3, x4, x5, x6, x7, x8, x9], _ => exact ⟨x0, x1, x2, x3, x4, x5, x6, x7, x8, x9, rfl⟩
theorem size11 {α : Type} {cs : Array α} (h : cs.size = 11) : ∃ x0 x1 x2 x3 x4 x5 x6 x7 x8 x9 x10, cs = #[x0, x1, x2, x3, x4, x5, x6, x7, x8, x9, x10] := by
  obtain ⟨l⟩ := cs
  match l, h with
  | [x0, x1, x2, x3, x4, x5, x6, x7, x8, x9, x10], _ => exact ⟨x0, x1, x2, x3, x4, x5, x6, x7, x8, x9, x10, rfl⟩
theorem size12 {α : Type} {cs : Array α} (h : cs.size = 12) : ∃ x0 x1 x2 x3 x4 x5 x6 x7 x8 x9 x10 x11, cs = #[x0, x1, x2, x3, x4, x5, x6, x7, x8, x9, x10, x11] := by
  obtain ⟨l⟩ := cs
  match l, h with
  | [x0, x1, x2, x3, x4, x5, x6, x7, x8, x9, x10, x11], _ => exact ⟨x0, x1, x2, x3, x4, x5, x6, x7, x8, x9, x10, x11, rfl⟩
theorem size13 {α : Type} {cs : Array α} (h : cs.size = 13) : ∃ x0 x1 x2 x3 x4 x5 x6 x7 x8 x9 x10 x11 x12, cs = #[x0, x1, x2, x3, x4, x5, x6, x7, x8, x9, x10, x11, x12] := by
  obtain ⟨l⟩ := cs
  match l, h with
  | [x0, x1, x2, x3, x4, x5, x6, x7, x8, x9, x10, x11, x12], _ => exact ⟨x0, x1, x2, x3, x4, x5, x6, x7, x8, x9, x10, x11, x12, rfl⟩
theorem size14 {α : Type} {cs : Array α} (h : cs.size = 14) : ∃ x0 x1 x2 x3 x4 x5 x6 x7 x8 x9 x10 x11 x12 x13, cs = #[x0, x1, x2, x3, x4, x5, x6, x7, x8, x9, x10, x11, x12, x13] := by
  obtain ⟨l⟩ := cs
  match l, h with
  | [x0, x1, x2, x3, x4, x5, x6, x7, x8, x9, x10, x11, x12, x13], _ => exact ⟨x0, x1, x2, x3, x4, x5, x6, x7, x8, x9, x10, x11, x12, x13, rfl⟩
theorem size15 {α : Type} {cs : Array α} (h : cs.size = 15) : ∃ x0 x1 x2 x3 x4 x5 x6 x7 x8 x9 x10 x11 x12 x13 x14, cs = #[x0, x1, x2, x3, x4, x5, x6, x7, x8, x9, x10, x11, x12, x13, x14] := by
  obtain ⟨l⟩ := cs
  match l, h with
  | [x0, x1, x2, x3, x4, x5, x6, x7, x8, x9, x10, x11, x12, x13, x14], _ => exact ⟨x0, x1, x2, x3, x4, x5, x6, x7, x8, x9, x10, x11, x12, x13, x14, rfl⟩
theorem size16 {α : Type} {cs : Array α} (h : cs.size = 16) : ∃ x0 x1 x2 x3 x4 x5 x6 x7 x8 x9 x10 x11 x12 x13 x14 x15, cs = #[x0, x1, x2, x3, x4, x5, x6, x7, x8, x9, x10, x11, x12, x13, x14, x15] := by
  obtain ⟨l⟩ := cs
  match l, h with
  | [x0, x1, x2, x3, x4, x5, x6, x7, x8, x9, x10, x11, x12, x13, x14, x15], _ => exact ⟨x0, x1, x2, x3, x4, x5, x6, x7, x8, x9, x10, x11, x12, x13, x14, x15, rfl⟩
theorem size17 {α : Type} {cs : Array α} (h : cs.size = 17) : ∃ x0 x1 x2 x3 x4 x5 x6 x7 x8 x9 x10 x11 x12 x13 x14 x15 x16, cs = #[x0, x1, x2, x3, x4, x5, x6, x7, x8, x9, x10, x11, x12, x13, x14, x15, x16] := by
  obtain ⟨l⟩ := cs
  match l, h with
  | [x0, x1, x2, x3, x4, x5, x6, x7, x8, x9, x10, x11, x12, x13, x14, x15, x16], _ => exact ⟨x0, x1, x2, x3, x4, x5, x6, x7, x8, x9, x10, x11, x12, x13, x14, x15, x16, rfl⟩
theorem size18 {α : Type} {cs : Array α} (h : cs.size = 18) : ∃ x0 x1 x2 x3 x4 x5 x6 x7 x8 x9 x10 x11 x12 x13 x14 x15 x16 x17, cs = #[x0, x1, x2, x3, x4, x5, x6, x7, x8, x9, x10, x11, x12, x13, x14, x15, x16, x17] := by
  obtain ⟨l⟩ := cs
  match l, h with
  | [x0, x1, x2, x3, x4, x5, x6, x7, x8, x9, x10, x11, x12, x13, x14, x15, x16, x17], _ => exact ⟨x0, x1, x2, x3, x4, x5, x6, x7, x8, x9, x10, x11, x12, x13, x14, x15, x16, x17, rfl⟩
theorem size19 {α : Type} {cs : Array α} (h : cs.size = 19) : ∃ x0 x1 x2 x3 x4 x5 x6 x7 x8 x9 x10 x11 x12 x13 x14 x15 x16 x17 x18, cs = #[x0, x1, x2, x3, x4, x5, x6, x7, x8, x9, x10, x11, x12, x13, x14, x15, x16, x17, x18] := by
  obtain ⟨l⟩ := cs
  match l, h with
  | [x0, x1, x2, x3, x4, x5, x6, x7, x8, x9, x10, x11, x12, x13, x14, x15, x16, x17, x18], _ => exact ⟨x0, x1, x2, x3, x4, x5, x6, x7, x8, x9, x10, x11, x12, x13, x14, x15, x16, x17, x18, rfl⟩
theorem size20 {α : Type} {cs : Array α} (h : cs.size = 20) : ∃ x0 x1 x2 x3 x4 x5 x6 x7 x8 x9 x10 x11 x12 x13 x14 x15 x16 x17 x18 x19, cs = #[x0, x1, x2, x3, x4, x5, x6, x7, x8, x9, x10, x11, x12, x13, x14, x15, x16, x17, x18, x19] := by
  obtain ⟨l⟩ := cs
  match l, h with
  | [x0, x1, x2, x3, x4, x5, x6, x7, x8, x9, x10, x11, x12, x13, x14, x15, x16, x17, x18, x19], _ => exact ⟨x0, x1, x2, x3, x4, x5, x6, x7, x8, x9, x10, x11, x12, x13, x14, x15, x16, x17, x18, x19, rfl⟩
end Go.Proofs.YtdjhpdacglojaaaGreat
