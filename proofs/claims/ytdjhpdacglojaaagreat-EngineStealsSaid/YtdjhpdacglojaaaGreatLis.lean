/- Words for a list of one's own behind a slice, however it was made, cut and appended to. Plain theorems; nothing of one law. -/
import Derived.Test.YtdjhpdacglojaaaGreatSep
import Derived.Deep.AppendLies
import Derived.Deep.RegionLaw
import Derived.ArgAppend
import Derived.Deep.Upon
import Derived.Laws.Slices
namespace Go.Proofs.YtdjhpdacglojaaaGreat
open Go.RowKit
set_option linter.unusedVariables false
/-- The slice v holds n elements of type e, the cells xs; its block is one's own. -/
def Lis (w : World) (e : TypeId) (size : Nat) (v : Value) (n : Nat) (xs : List Value) : Prop :=
  xs.length = n * size ∧ ((v = .slice none 0 0 ∧ n = 0) ∨
    ∃ g off cap arr, v = .slice (some ⟨g, off, none⟩) n cap ∧ w.heap[g]? = some (.cells arr e (0, 0)) ∧ n ≤ cap ∧ cap ≤ maxLen ∧ (0 < cap → off + cap * size ≤ arr.size) ∧ ∀ j u, xs[j]? = some u → arr[off + j]? = some u)
/-- What can be read behind a slice's address. -/
def Rds (w : World) (A : Option Addr) (m size : Nat) (news : List Value) : Prop := news.length = m * size ∧ (m = 0 ∨ ∃ g off, A = some ⟨g, off, none⟩ ∧ ∀ j u, news[j]? = some u → w.cell? ⟨g, off + j, none⟩ = some u)
section
variable {w w' : World} {e : TypeId} {size : Nat} {v : Value} {n : Nat} {xs : List Value}
theorem Lis.nil (w : World) (e : TypeId) (size : Nat) : Lis w e size (.slice none 0 0) 0 [] := ⟨by simp, Or.inl ⟨rfl, rfl⟩⟩
theorem Lis.keep (h : Lis w e size v n xs) (hk : ∀ g, v.ownBlock = some g → w'.heap[g]? = w.heap[g]?) : Lis w' e size v n xs := by
  refine ⟨h.1, ?_⟩
  rcases h.2 with h | ⟨g, off, cap, arr, rfl, hh, r⟩
  · exact Or.inl h
  · exact Or.inr ⟨g, off, cap, arr, rfl, (hk g rfl).trans hh, r⟩
theorem Lis.lt (h : Lis w e size v n xs) {g : Nat} (hg : v.ownBlock = some g) : g < w.heap.size := by
  rcases h.2 with ⟨rfl, _⟩ | ⟨g', off, cap, arr, rfl, hh, r⟩
  · simp [Value.ownBlock] at hg
  · obtain rfl : g' = g := by simpa [Value.ownBlock] using hg
    rcases Nat.lt_or_ge g' w.heap.size with hlt | hge
    · exact hlt
    · rw [Array.getElem?_eq_none hge] at hh; cases hh
theorem Lis.of_own (h : w.ownsRow 0 e size v n xs) : Lis w e size v n xs := by
  refine ⟨h.1, ?_⟩
  rcases h.2 with h0 | ⟨g, cap, cur, rfl, _, hh, hn, hm, hs, ht⟩
  · exact Or.inl h0
  · refine Or.inr ⟨g, 0, cap, cur, rfl, hh, hn, hm, fun _ => by omega, fun j u hu => ?_⟩
    have hj : j < n * size := by
      rcases Nat.lt_or_ge j xs.length with hh | hh
      · have := h.1; omega
      · rw [List.getElem?_eq_none hh] at hu; cases hu
    rw [← ht, List.getElem?_take_of_lt hj] at hu
    simpa using hu
theorem Lis.shape (h : Lis w e size v n xs) : ∃ A cap, v = .slice A n cap ∧ n ≤ cap ∧ cap ≤ maxLen := by
  rcases h.2 with ⟨rfl, rfl⟩ | ⟨g, off, cap, arr, rfl, hh, hn, hm, _⟩
  · exact ⟨none, 0, rfl, Nat.le_refl _, by unfold maxLen; omega⟩
  · exact ⟨_, cap, rfl, hn, hm⟩
theorem Lis.reads {A : Option Addr} {cap : Nat} (h : Lis w e size (.slice A n cap) n xs) : Rds w A n size xs := by
  refine ⟨h.1, ?_⟩
  rcases h.2 with ⟨_, rfl⟩ | ⟨g, off, cp, arr, hv, hh, hn, hm, hs, hx⟩
  · exact Or.inl rfl
  · injection hv with hA
    exact Or.inr ⟨g, off, hA, fun j u hu => by simpa [World.cell?, hh] using hx j u hu⟩
theorem Lis.frozen {g off cap : Nat} (h : Lis w e size (.slice (some ⟨g, off, none⟩) n cap) n xs) (o : Nat) : w.frozen? ⟨g, o, none⟩ = false := by
  rcases h.2 with ⟨h, _⟩ | ⟨g', off', cp, arr, hv, hh, _⟩
  · cases h
  · injection hv with hA
    injection hA with hA
    injection hA with hA
    subst hA
    simp [World.frozen?, hh]
/-- Cut at its front. -/
theorem Lis.cut {A : Option Addr} {cap k : Nat} (h : Lis w e size (.slice A n cap) n xs) (hk : k ≤ n) : Lis w e size (.slice (if cap = k then A else A.map (·.add (k * size))) (n - k) (cap - k)) (n - k) (xs.drop (k * size)) := by
  refine ⟨by rw [List.length_drop, h.1, Nat.sub_mul], ?_⟩
  rcases h.2 with ⟨hv, rfl⟩ | ⟨g, off, cp, arr, hv, hh, hn, hm, hs, hx⟩
  · injection hv with hA _ hc
    subst hA; subst hc
    obtain rfl : k = 0 := by omega
    exact Or.inl ⟨by simp, by simp⟩
  · injection hv with hA _ hc
    subst hA; subst hc
    by_cases e1 : cap = k
    · rw [if_pos e1]
      exact Or.inr ⟨g, off, cap - k, arr, rfl, hh, by omega, by omega, fun h0 => by omega, fun j u hu => by
        have : xs.drop (k * size) = [] := List.drop_eq_nil_of_le (by rw [h.1]; exact Nat.mul_le_mul_right _ (by omega))
        rw [this] at hu; simp at hu⟩
    · rw [if_neg e1]
      refine Or.inr ⟨g, off + k * size, cap - k, arr, ?_, hh, by omega, by omega, fun h0 => ?_, fun j u hu => ?_⟩
      · simp [Go.WideShapes.add_plain]
      · have := hs (by omega)
        rw [Nat.sub_mul]
        have : k * size ≤ cap * size := Nat.mul_le_mul_right _ (by omega)
        omega
      · rw [List.getElem?_drop] at hu
        rw [Nat.add_assoc]; exact hx _ u hu
/-- Its first ones. -/
theorem Lis.upto {A : Option Addr} {cap k : Nat} (h : Lis w e size (.slice A n cap) n xs) (hk : k ≤ n) : Lis w e size (.slice A k cap) k (xs.take (k * size)) := by
  refine ⟨by rw [List.length_take, h.1]; exact Nat.min_eq_left (Nat.mul_le_mul_right _ hk), ?_⟩
  rcases h.2 with ⟨hv, rfl⟩ | ⟨g, off, cp, arr, hv, hh, hn, hm, hs, hx⟩
  · injection hv with hA _ hc
    subst hA; subst hc
    obtain rfl : k = 0 := by omega
    exact Or.inl ⟨rfl, rfl⟩
  · injection hv with hA _ hc
    subst hA; subst hc
    refine Or.inr ⟨g, off, cap, arr, rfl, hh, by omega, hm, hs, fun j u hu => hx j u ?_⟩
    rw [List.getElem?_take] at hu
    split at hu
    · exact hu
    · cases hu
/-- One cell is laid anew. -/
theorem Lis.set_ {g off cap k : Nat} (h : Lis w e size (.slice (some ⟨g, off, none⟩) n cap) n xs) (hk : k < n * size) (u : Value) : Lis (w.setCell ⟨g, off + k, none⟩ u) e size (.slice (some ⟨g, off, none⟩) n cap) n (xs.set k u) := by
  refine ⟨by rw [List.length_set]; exact h.1, ?_⟩
  rcases h.2 with ⟨hv, _⟩ | ⟨g', off', cp, arr, hv, hh, hn, hm, hs, hx⟩
  · cases hv
  · injection hv with hA _ hc
    injection hA with hA
    injection hA with hA hO
    subst hA; subst hO; subst hc
    refine Or.inr ⟨g, off, cap, arr.setIfInBounds (off + k) u, rfl, Blk.set_ hh (off + k) u, hn, hm, by simpa using hs, fun j x hj => ?_⟩
    by_cases e1 : j = k
    · subst e1
      rw [List.getElem?_set_self (by rw [h.1]; exact hk)] at hj
      have hjl : j < xs.length := by rw [h.1]; exact hk
      have := hx j (xs[j]'hjl) (List.getElem?_eq_getElem hjl)
      rw [Array.getElem?_setIfInBounds_self_of_lt (Array.getElem?_eq_some_iff.1 this).1]
      exact hj
    · rw [List.getElem?_set_ne (Ne.symm e1)] at hj
      rw [Array.getElem?_setIfInBounds_ne (by omega)]; exact hx j x hj
theorem Rds.keep {A : Option Addr} {m : Nat} {news : List Value} (h : Rds w A m size news) (hk : ∀ p : Addr, some p.block = A.map (·.block) → w'.cell? p = w.cell? p) : Rds w' A m size news := by
  refine ⟨h.1, ?_⟩
  rcases h.2 with h | ⟨g, off, rfl, hc⟩
  · exact Or.inl h
  · exact Or.inr ⟨g, off, rfl, fun j u hu => (hk ⟨g, off + j, none⟩ rfl).trans (hc j u hu)⟩
theorem heap_setCells (g : Nat) (e : TypeId) : ∀ (vs : List Value) (o : Nat) (w : World) (arr : Array Value), w.heap[g]? = some (.cells arr e (0, 0)) → ∃ arr', (w.setCells g o vs).heap[g]? = some (.cells arr' e (0, 0)) ∧ arr'.size = arr.size
  | [], o, w, arr, h => ⟨arr, h, rfl⟩
  | x :: vs, o, w, arr, h => by
    obtain ⟨arr', h1, h2⟩ := heap_setCells g e vs (o + 1) _ _ (Blk.set_ (w := w) (g := g) (t := e) h o x)
    exact ⟨arr', h1, by rw [h2]; simp⟩
theorem tape_setCells (g : Nat) : ∀ (vs : List Value) (o : Nat) (w : World), (w.setCells g o vs).tape = w.tape
  | [], _, _ => rfl
  | x :: vs, o, w => (tape_setCells g vs (o + 1) _).trans rfl
theorem size_setCells_ (g : Nat) : ∀ (vs : List Value) (o : Nat) (w : World), (w.setCells g o vs).heap.size = w.heap.size
  | [], _, _ => rfl
  | x :: vs, o, w => (size_setCells_ g vs (o + 1) _).trans (by simp [World.setCell])
/-- The run of an append. -/
theorem run_lis {P : Program} (t ty : TypeId) (i : TypeInfo) (z : Value) (bytes : Nat) (ht : P.underlying t = some (.slice e)) (hi : P.info? e = some i) (hz : i.zero = some z)
    (hsize : i.size = size) (hby : i.bytes = bytes) (hzs : z.cells.size = size) (hsz : 0 < size) (h : Lis w e size v n xs)
    (A : Option Addr) (m c : Nat) (news : List Value) (hr : Rds w A m size news) (h1 : ∀ u ∈ news, u.oneCell' = true) (h63 : n + m ≤ maxLen) (hbytes : (n + m) * bytes ≤ 140737488355328) :
    ∃ v' w', (Builtin.append_ #[t, t] ty #[v, .slice A m c]).run P w = .ok v' w' ∧ Lis w' e size v' (n + m) (xs ++ news) ∧ w.grownBy w' v.ownBlock ∧ (v'.ownBlock = v.ownBlock ∨ ∃ g, v'.ownBlock = some g ∧ w.heap.size ≤ g) := by
  have nothing : m = 0 → ∃ v' w', (Builtin.append_ #[t, t] ty #[v, .slice A m c]).run P w = .ok v' w' ∧ Lis w' e size v' (n + m) (xs ++ news) ∧ w.grownBy w' v.ownBlock ∧ (v'.ownBlock = v.ownBlock ∨ ∃ g, v'.ownBlock = some g ∧ w.heap.size ≤ g) := by
    intro hm
    subst hm
    have hn : news = [] := List.eq_nil_of_length_eq_zero (by simpa using hr.1)
    subst hn
    refine ⟨v, w, ?_, by simpa using h, World.grownBy.refl w _, Or.inl rfl⟩
    have hf : (Builtin.firstCells size 0 (.slice A 0 c)).run P w = .ok #[] w := by
      cases A with
      | none => exact run_firstCells_none (P := P) w size 0 0 c
      | some a => exact run_firstCells_some (P := P) w size 0 a 0 c [] (by simp) (fun j u hu => by simp at hu)
    rcases h.2 with ⟨rfl, rfl⟩ | ⟨g, off, cap, arr, rfl, hh, hnc, _⟩
    · simp [Builtin.append_, run_underlying ht, sizeOf, typeInfo, hi, hsize, Builtin.lenOf, hf]
    · simp [Builtin.append_, run_underlying ht, sizeOf, typeInfo, hi, hsize, Builtin.lenOf, hf, hnc, storeCells]
  rcases hr.2 with hm | ⟨sg, so, rfl, hsc⟩
  · exact nothing hm
  · have hnews : ∀ j u, news[j]? = some u → w.cell? ((⟨sg, so, none⟩ : Addr).add j) = some u := fun j u hu => by rw [Go.WideShapes.add_plain]; exact hsc j u hu
    by_cases hm0 : m = 0
    · exact nothing hm0
    · rcases h.2 with ⟨rfl, rfl⟩ | ⟨g, off, cap, arr, rfl, hh, hnc, hm, hs, hx⟩
      · have hxs : xs = [] := List.eq_nil_of_length_eq_zero (by simpa using h.1)
        subst hxs
        obtain ⟨v', w', hrun, h2, h3, _, h5⟩ := run_append_own_at (P := P) (w := w) 0 t ty e i z size bytes ht hi hz hsize hby hzs hsz (.slice none 0 0) 0 [] ⟨by simp, Or.inl ⟨rfl, rfl⟩⟩ ⟨sg, so, none⟩ m c news hr.1 hnews h1 h63 hbytes (Nat.zero_le _)
        exact ⟨v', w', hrun, Lis.of_own h2, h3, h5.imp id fun h => ⟨_, h, Nat.le_refl _⟩⟩
      · by_cases hroom : n + m ≤ cap
        · have hsz2 := hs (by omega)
          have hmul : (n + m) * size ≤ cap * size := Nat.mul_le_mul_right _ hroom
          rw [Nat.add_mul] at hmul
          have hin : ∀ j, j < news.length → (w.cell? ⟨g, off + n * i.size + j, none⟩).isSome = true := fun j hj => by
            have : news.length = m * size := hr.1
            rw [hsize]
            simp [World.cell?, hh]; omega
          have hfz : ∀ j, j < news.length → w.frozen? ⟨g, off + n * i.size + j, none⟩ = false := fun j hj => by simp [World.frozen?, hh]
          have hrun := run_append_room_cells (P := P) w t ty e i ht hi g off n cap ⟨sg, so, none⟩ m c news (by rw [hsize]; exact hr.1) hnews h1 hroom hin hfz
          obtain ⟨arr', h2, h3⟩ := heap_setCells g e news (off + n * i.size) w arr hh
          have hglt : g < w.heap.size := by
            rcases Nat.lt_or_ge g w.heap.size with hlt | hge
            · exact hlt
            · rw [Array.getElem?_eq_none hge] at hh; cases hh
          have hkb := World.keptBut_setCells g (may := fun _ => True) news (off + n * i.size) w (fun _ _ => trivial)
          refine ⟨_, _, hrun, ⟨by rw [List.length_append, h.1, hr.1, Nat.add_mul], Or.inr ⟨g, off, cap, arr', rfl, h2, hroom, hm, fun h0 => by rw [h3]; exact hs h0, fun j u hu => ?_⟩⟩, ⟨World.os_setCells _ _ _ _, ?_, World.output_setCells _ _ _ _, ?_, fun k hk hne => World.heap_setCells_other w g _ news hk (fun e => hne (by rw [e]; rfl))⟩, Or.inl rfl⟩
          · have key : (w.setCells g (off + n * i.size) news).cell? ⟨g, off + j, none⟩ = some u := by
              rcases Nat.lt_or_ge j xs.length with hj | hj
              · rw [List.getElem?_append_left hj] at hu
                rw [World.cell?_setCells_out g news (off + n * i.size) w ⟨g, off + j, none⟩ (fun _ _ => Or.inl (by rw [hsize]; have := h.1; show off + j < _; omega))]
                simpa [World.cell?, hh] using hx j u hu
              · rw [List.getElem?_append_right hj] at hu
                have hjl : j - xs.length < news.length := by
                  rcases Nat.lt_or_ge (j - xs.length) news.length with h | h
                  · exact h
                  · rw [List.getElem?_eq_none h] at hu; cases hu
                have := World.cell?_setCells_in g news (off + n * i.size) w hin (j - xs.length) hjl
                rw [List.getElem?_eq_getElem hjl] at hu
                have hl := h.1
                rw [show off + j = off + n * i.size + (j - xs.length) by rw [hsize]; omega, this]
                exact hu
            simpa [World.cell?, h2] using key
          · exact tape_setCells g news (off + n * i.size) w
          · exact Nat.le_of_eq (size_setCells_ g news (off + n * i.size) w).symm
        · obtain ⟨v', w', hrun, h2, h3⟩ := run_append_arg_grows (P := P) w t ty e i z size bytes ht hi hz hsize hby hzs hsz ⟨g, off, none⟩ n cap xs h.1 (fun j u hu => by rw [Go.WideShapes.add_plain]; simpa [World.cell?, hh] using hx j u hu) ⟨sg, so, none⟩ m c news hr.1 hnews (by omega) h63 hbytes
          refine ⟨v', w', hrun, Lis.of_own (row_less h2), ⟨h3.os, h3.tape, h3.output, h3.size, fun k hk _ => h3.block k hk (by simp)⟩, Or.inr ?_⟩
          rcases h2.2 with ⟨_, h0⟩ | ⟨g', cp, cur, rfl, hg', _⟩
          · omega
          · exact ⟨g', rfl, hg'⟩
/-- The same at a plain region's list. -/
theorem wpList_lis {P : Program} {ops : Array Oper} {rest : List Oper} {o : Oper} {a : Act} {Q : Exit → Act → World → Prop} (hgd : o.guard = none) (s x : Operand) (t : TypeId)
    (ho : o.op = .call { callee := .builtin .append, args := #[s, x], argTypes := #[t, t] })
    (e : TypeId) (i : TypeInfo) (z : Value) (size bytes : Nat) (ht : P.underlying t = some (.slice e)) (hi : P.info? e = some i) (hz : i.zero = some z)
    (hsize : i.size = size) (hby : i.bytes = bytes) (hzs : z.cells.size = size) (hsz : 0 < size) (v : Value) (n : Nat) (xs : List Value) (hs : a.eval s = v) (h : Lis w e size v n xs)
    (A : Option Addr) (m c : Nat) (news : List Value) (hx : a.eval x = .slice A m c) (hr : Rds w A m size news) (h1 : ∀ u ∈ news, u.oneCell' = true) (h63 : n + m ≤ maxLen) (hbytes : (n + m) * bytes ≤ 140737488355328)
    (hK : ∀ B cap w', Lis w' e size (.slice B (n + m) cap) (n + m) (xs ++ news) → w.grownBy w' v.ownBlock → ((Value.slice B (n + m) cap).ownBlock = v.ownBlock ∨ ∃ g, (Value.slice B (n + m) cap).ownBlock = some g ∧ w.heap.size ≤ g) → wpList P ops Q rest (a.put o.dst (.slice B (n + m) cap)) w') : wpList P ops Q (o :: rest) a w :=
  wpList_plain hgd fun K hK2 => by
    obtain ⟨v', w', hrun, h2, h3, h4⟩ := run_lis (P := P) (w := w) t o.type i z bytes ht hi hz hsize hby hzs hsz h A m c news hr h1 h63 hbytes
    unfold Oper.wp execOp
    simp only [ho, resolve, invoke, builtin, Sem.run_bind, Sem.run_pure, Result.andThen_ok, List.map_toArray, List.map_cons, List.map_nil, hs, hx, hrun]
    obtain ⟨B, cap, rfl, _⟩ := h2.shape
    exact hK2 _ _ (hK B cap w' h2 h3 h4)
/-- The same as a step of a region that draws its order. -/
theorem step_lis {P : Program} {ops : Array Oper} {o : Oper} {a : Act} {K : Act → World → Prop} {Q : Exit → Act → World → Prop} {E : Prop} (hgd : o.guard = none) (s x : Operand) (t : TypeId)
    (ho : o.op = .call { callee := .builtin .append, args := #[s, x], argTypes := #[t, t] })
    (e : TypeId) (i : TypeInfo) (z : Value) (size bytes : Nat) (ht : P.underlying t = some (.slice e)) (hi : P.info? e = some i) (hz : i.zero = some z)
    (hsize : i.size = size) (hby : i.bytes = bytes) (hzs : z.cells.size = size) (hsz : 0 < size) (v : Value) (n : Nat) (xs : List Value) (hs : a.eval s = v) (h : Lis w e size v n xs)
    (A : Option Addr) (m c : Nat) (news : List Value) (hx : a.eval x = .slice A m c) (hr : Rds w A m size news) (h1 : ∀ u ∈ news, u.oneCell' = true) (h63 : n + m ≤ maxLen) (hbytes : (n + m) * bytes ≤ 140737488355328)
    (hK : ∀ B cap w', Lis w' e size (.slice B (n + m) cap) (n + m) (xs ++ news) → w.grownBy w' v.ownBlock → ((Value.slice B (n + m) cap).ownBlock = v.ownBlock ∨ ∃ g, (Value.slice B (n + m) cap).ownBlock = some g ∧ w.heap.size ≤ g) → K (a.put o.dst (.slice B (n + m) cap)) w') :
    if Region.wanted o (yielded ops a.tmps) = true then Oper.wp P o a w K Q else E := by
  have hw : Region.wanted o (yielded ops a.tmps) = true := by simp [Region.wanted, hgd]
  rw [if_pos hw]
  obtain ⟨v', w', hrun, h2, h3, h4⟩ := run_lis (P := P) (w := w) t o.type i z bytes ht hi hz hsize hby hzs hsz h A m c news hr h1 h63 hbytes
  unfold Oper.wp execOp
  simp only [ho, resolve, invoke, builtin, Sem.run_bind, Sem.run_pure, Result.andThen_ok, List.map_toArray, List.map_cons, List.map_nil, hs, hx, hrun]
  obtain ⟨B, cap, rfl, _⟩ := h2.shape
  exact hK B cap w' h2 h3 h4
end
theorem rds_box (w : World) (e : TypeId) (u : Value) : Rds (w.alloc (.cells #[u] e)) (some ⟨w.heap.size, 0, none⟩) 1 1 [u] :=
  ⟨rfl, Or.inr ⟨_, _, rfl, fun j x hx => by
    cases j with
    | zero => rw [(Blk.new w e #[u]).cell]; simpa using hx
    | succ j => simp at hx⟩⟩
theorem rds_box2 (w : World) (e : TypeId) (u v : Value) : Rds (w.alloc (.cells #[u, v] e)) (some ⟨w.heap.size, 0, none⟩) 1 2 [u, v] :=
  ⟨rfl, Or.inr ⟨_, _, rfl, fun j x hx => by
    match j, hx with
    | 0, hx => rw [(Blk.new w e #[u, v]).cell]; simpa using hx
    | 1, hx => rw [(Blk.new w e #[u, v]).cell]; simpa using hx
    | j + 2, hx => simp at hx⟩⟩
def LisR (e : TypeId) (size : Nat) (v : Value) (n : Nat) (xs : List Value) : Res := fun w S => Lis w e size v n xs ∧ ∀ b, S b ↔ v.ownBlock = some b
theorem LisR.ok (e : TypeId) (size : Nat) (v : Value) (n : Nat) (xs : List Value) : Ok (LisR e size v n xs) :=
  ⟨fun ⟨h, hs⟩ b hb => h.lt ((hs b).1 hb), fun ⟨h, hs⟩ hk => ⟨h.keep fun g hg => hk g ((hs g).2 hg), hs⟩⟩
section
variable {w0 w w' : World} {S0 : Nat → Prop} {L : List Res} {e : TypeId} {size n n' : Nat} {v v' : Value} {xs xs' : List Value}
theorem St.lis (h : St w0 S0 w L) (i : Nat) (hi : L[i]? = some (LisR e size v n xs)) : Lis w e size v n xs := by obtain ⟨S, hb, _⟩ := h.get i hi; exact hb
theorem St.lis_nil (h : St w0 S0 w L) (e : TypeId) (size : Nat) : St w0 S0 w (L ++ [LisR e size (.slice none 0 0) 0 []]) :=
  h.more (Below.refl _ _) (Star.one (LisR.ok _ _ _ _ _) ⟨Lis.nil _ _ _, fun b => Iff.rfl⟩) (fun b hb => by have hb : (Value.slice none 0 0).ownBlock = some b := hb; simp [Value.ownBlock] at hb)
/-- The list was appended to. -/
theorem St.lis_put (h : St w0 S0 w L) (i : Nat) (hi : L[i]? = some (LisR e size v n xs)) (hl : Lis w' e size v' n' xs') (hg : w.grownBy w' v.ownBlock) (hat : v'.ownBlock = v.ownBlock ∨ ∃ g, v'.ownBlock = some g ∧ w.heap.size ≤ g) : St w0 S0 w' (L.set i (LisR e size v' n' xs')) :=
  h.turn hi (LisR.ok _ _ _ _ _) fun T ⟨hb, hT⟩ => ⟨fun b => v'.ownBlock = some b, ⟨hl, fun b => Iff.rfl⟩,
    ⟨hg.os, hg.tape, hg.output, hg.size, fun k hk hn => hg.block k hk fun e => hn ((hT k).2 e.symm), fun b hb => by
      rcases hat with h | ⟨g, h, hle⟩
      · exact Or.inl ((hT b).2 (h ▸ hb))
      · rw [h] at hb; injection hb with hb; exact Or.inr (hb ▸ hle)⟩⟩
/-- The list is known by another slice of its block. -/
theorem St.lis_as (h : St w0 S0 w L) (i : Nat) (hi : L[i]? = some (LisR e size v n xs)) (hl : Lis w e size v' n' xs') (hat : ∀ g, v'.ownBlock = some g → v.ownBlock = some g) : St w0 S0 w (L.set i (LisR e size v' n' xs')) :=
  h.turn hi (LisR.ok _ _ _ _ _) fun T ⟨hb, hT⟩ => ⟨fun b => v'.ownBlock = some b, ⟨hl, fun b => Iff.rfl⟩, ⟨rfl, rfl, rfl, Nat.le_refl _, fun _ _ _ => rfl, fun b hb => Or.inl ((hT b).2 (hat b hb))⟩⟩
theorem cut_block {A : Option Addr} {cap k m n' c n1 c1 : Nat} : ∀ g, (Value.slice (if cap = k then A else A.map (·.add m)) n' c).ownBlock = some g → (Value.slice A n1 c1).ownBlock = some g := by
  intro g hg
  cases A with
  | none => split at hg <;> simp [Value.ownBlock] at hg
  | some a =>
    split at hg
    · exact hg
    · simp only [Option.map_some, Value.ownBlock] at hg ⊢
      rw [← hg]; unfold Addr.add; split <;> rfl
/-- One cell of it was laid anew. -/
theorem St.lis_set {g off cap k : Nat} (h : St w0 S0 w L) (i : Nat) (hi : L[i]? = some (LisR e size (.slice (some ⟨g, off, none⟩) n cap) n xs)) (hk : k < n * size) (u : Value) : St w0 S0 (w.setCell ⟨g, off + k, none⟩ u) (L.set i (LisR e size (.slice (some ⟨g, off, none⟩) n cap) n (xs.set k u))) :=
  h.turn hi (LisR.ok _ _ _ _ _) fun T ⟨hb, hT⟩ => ⟨T, ⟨hb.set_ hk u, hT⟩, Did.of_only ((Only.refl g w).set_ (off + k) u) ((hT g).2 rfl) fun b h => Or.inl h⟩
/-- A new list, of cells just made. -/
theorem St.lis_new (h : St w0 S0 w L) (e : TypeId) (size n : Nat) (cs : Array Value) (hc : cs.size = n * size) (hn : n ≤ maxLen) : St w0 S0 (w.alloc (.cells cs e)) (L ++ [LisR e size (.slice (some ⟨w.heap.size, 0, none⟩) n n) n cs.toList]) :=
  h.more ((Below.refl _ _).alloc (Nat.le_refl _) _) (Star.one (LisR.ok _ _ _ _ _) ⟨⟨by simpa using hc, Or.inr ⟨w.heap.size, 0, n, cs, rfl, Blk.new w e cs, Nat.le_refl _, hn, fun _ => by omega, fun j u hu => by simpa using hu⟩⟩, fun b => Iff.rfl⟩)
    (fun b hb => by have hb : (Value.slice (some ⟨w.heap.size, 0, none⟩) n n).ownBlock = some b := hb; simp [Value.ownBlock] at hb; omega)
/-- Cells of a list. -/
theorem St.lis_cells (h : St w0 S0 w L) (i : Nat) (hi : L[i]? = some (LisR e size v n xs)) : ∃ A cap, v = .slice A n cap ∧ n ≤ cap ∧ cap ≤ maxLen ∧ xs.length = n * size ∧ (n = 0 ∨ ∃ g off, A = some ⟨g, off, none⟩ ∧ ∀ j u, xs[j]? = some u → w.cell? ⟨g, off + j, none⟩ = some u) := by
  have hl := h.lis i hi
  obtain ⟨A, cap, rfl, h1, h2⟩ := hl.shape
  exact ⟨A, cap, rfl, h1, h2, hl.1, hl.reads.2⟩
end
end Go.Proofs.YtdjhpdacglojaaaGreat
