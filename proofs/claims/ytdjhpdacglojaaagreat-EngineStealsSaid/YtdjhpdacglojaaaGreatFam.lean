/- Words for families of things side by side, and for boxes laid in front. Plain theorems; nothing of one law. -/
import Derived.Test.YtdjhpdacglojaaaGreatSep
import Derived.BigQuiet
namespace Go.Proofs.YtdjhpdacglojaaaGreat
open Go.RowKit
set_option linter.unusedVariables false
theorem set_same {L : List Res} {k : Nat} {R : Res} (h : L[k]? = some R) : L.set k R = L := by
  apply List.ext_getElem?
  intro j
  by_cases e : j = k
  · subst e
    rw [List.getElem?_set_self (List.getElem?_eq_some_iff.1 h).1, h]
  · rw [List.getElem?_set_ne (Ne.symm e)]
/-- One of a family at its place behind others. -/
theorem fam_at {n i : Nat} (A : List Res) (R : Nat → Res) (hi : i < n) : (A ++ (List.range n).map R)[A.length + i]? = some (R i) := by
  rw [List.getElem?_append_right (by omega)]
  simp [hi]
theorem fam_set {n i : Nat} (A : List Res) (R : Nat → Res) (R' : Res) (hi : i < n) : (A ++ (List.range n).map R).set (A.length + i) R' = A ++ (List.range n).map (fun j => if j = i then R' else R j) := by
  apply List.ext_getElem?
  intro k
  by_cases hk : k = A.length + i
  · subst hk
    rw [List.getElem?_set_self (by simp; omega), fam_at _ _ hi, if_pos rfl]
  · rw [List.getElem?_set_ne (by omega)]
    by_cases hl : k < A.length
    · rw [List.getElem?_append_left hl, List.getElem?_append_left hl]
    · rw [List.getElem?_append_right (by omega), List.getElem?_append_right (by omega)]
      by_cases hn : k - A.length < n
      · simp [hn, show ¬ k - A.length = i by omega]
      · rw [List.getElem?_eq_none (by simp; omega), List.getElem?_eq_none (by simp; omega)]
theorem fam_like {n : Nat} {R R' : Nat → Res} (h : ∀ i, i < n → R i = R' i) : (List.range n).map R = (List.range n).map R' :=
  List.map_congr_left fun i hi => h i (by simpa using hi)
/-- A world of which p holds. -/
structure Within (p : World → Prop) where
  w : World
  h : p w
section
variable {w0 w w' : World} {S0 : Nat → Prop} {L : List Res} {R : Nat → Res} {n : Nat}
/-- What there is, and what was laid last, the other way round. -/
theorem Star.comm {A B : List Res} {S : Nat → Prop} (h : Star (A ++ B) w S) : Star (B ++ A) w S := by
  obtain ⟨F, f1, f2, f3, f4⟩ := h
  refine ⟨fun i b => i < B.length + A.length ∧ F (if i < B.length then A.length + i else i - B.length) b, fun i R hR => ?_, fun i j b hi hj => ?_, fun i b hi => by simpa using hi.1, fun b => ⟨fun hb => ?_, fun ⟨i, hi⟩ => (f4 b).2 ⟨_, hi.2⟩⟩⟩
  · have hlt : i < B.length + A.length := by
      rcases Nat.lt_or_ge i (B ++ A).length with h | h
      · simpa using h
      · rw [List.getElem?_eq_none h] at hR; cases hR
    have e : (fun b => i < B.length + A.length ∧ F (if i < B.length then A.length + i else i - B.length) b) = F (if i < B.length then A.length + i else i - B.length) := funext fun b => propext ⟨fun h => h.2, fun h => ⟨hlt, h⟩⟩
    dsimp only; rw [e]
    apply f1
    by_cases hi : i < B.length
    · rw [if_pos hi, List.getElem?_append_right (by omega)]
      rw [List.getElem?_append_left hi] at hR
      rwa [Nat.add_sub_cancel_left]
    · rw [if_neg hi, List.getElem?_append_left (by omega)]
      rw [List.getElem?_append_right (by omega)] at hR
      exact hR
  · have h1 := hi.1
    have h2 := hj.1
    have := f2 _ _ b hi.2 hj.2
    split at this <;> split at this <;> omega
  · obtain ⟨i, hi⟩ := (f4 b).1 hb
    have hl := f3 i b hi
    simp at hl
    by_cases ha : i < A.length
    · exact ⟨B.length + i, by omega, by rw [if_neg (by omega), Nat.add_sub_cancel_left]; exact hi⟩
    · exact ⟨i - A.length, by omega, by rw [if_pos (by omega), Nat.add_sub_cancel' (by omega)]; exact hi⟩
theorem St.comm {A B : List Res} (h : St w0 S0 w (A ++ B)) : St w0 S0 w (B ++ A) := by
  obtain ⟨S, hs, hd⟩ := h; exact ⟨S, hs.comm, hd⟩
/-- A box laid in front. -/
theorem St.front (h : St w0 S0 w L) (t : TypeId) (cs : Array Value) : St w0 S0 (w.alloc (.cells cs t)) (BlkR w.heap.size t cs :: L) := (h.box t cs).comm
/-- A box of cells that are alike, as a row. -/
theorem St.box_arr (h : St w0 S0 w L) (t : TypeId) (cs : Array Value) (n : Nat) (V : Nat → Value) (hz : cs.size = n) (hv : ∀ i, i < n → cs[i]? = some (V i)) : St w0 S0 (w.alloc (.cells cs t)) (L ++ [ArrR w.heap.size t n V]) :=
  h.more ((Below.refl _ _).alloc (Nat.le_refl _) _) (Star.one (ArrR.ok _ _ _ _) ⟨cs, Blk.new w t cs, hz, hv, fun b => Iff.rfl⟩) (fun b hb => by have hb : b = w.heap.size := hb; omega)
/-- A row of sixteen, known whole. -/
theorem St.arr16 {g : Nat} {t : TypeId} {V : Nat → Value} (h : St w0 S0 w L) (i : Nat) (hi : L[i]? = some (ArrR g t 16 V)) :
    Blk w g t #[V 0, V 1, V 2, V 3, V 4, V 5, V 6, V 7, V 8, V 9, V 10, V 11, V 12, V 13, V 14, V 15] := by
  obtain ⟨S, arr, hb, hz, ha, _⟩ := h.get i hi
  have e : arr = #[V 0, V 1, V 2, V 3, V 4, V 5, V 6, V 7, V 8, V 9, V 10, V 11, V 12, V 13, V 14, V 15] := by
    apply Array.ext_getElem?
    intro k
    by_cases hk : k < 16
    · rw [ha k hk]
      match k, hk with
      | 0, _ | 1, _ | 2, _ | 3, _ | 4, _ | 5, _ | 6, _ | 7, _ | 8, _ | 9, _ | 10, _ | 11, _ | 12, _ | 13, _ | 14, _ | 15, _ => rfl
      | n + 16, h => omega
    · rw [Array.getElem?_eq_none (by omega), Array.getElem?_eq_none (by simp; omega)]
  rw [← e]; exact hb
/-- A family grows. -/
theorem St.fam_snoc {A : List Res} {F F' : Nat → Res} {R0 : Res} {k : Nat} (h : St w0 S0 w (A ++ (List.range k).map F ++ [R0])) (ho : Ok (F' k)) (hF : ∀ i, i < k → F i = F' i) (hR : ∀ S, R0 w S → F' k w S) : St w0 S0 w (A ++ (List.range (k + 1)).map F') := by
  have h2 := h.weak (A ++ (List.range k).map F).length (by rw [List.getElem?_append_right (Nat.le_refl _)]; simp) ho hR
  rw [List.set_append_right _ _ (Nat.le_refl _)] at h2
  simp only [Nat.sub_self, List.set_cons_zero] at h2
  rw [List.range_succ, List.map_append, ← List.append_assoc, ← fam_like hF]
  exact h2
/-- make of structs with a length that is known, at every world. -/
theorem run_make_rowM {P : Program} (t e : TypeId) (i : TypeInfo) (z : Value) (m : Nat) (ht : P.underlying t = some (.slice e)) (hi : P.info? e = some i) (hz : i.zero = some z) (hs : i.size = m)
    (kl kc : IntKind) (n : Nat) (hbytes : i.bytes * n ≤ 281474976710656) (h63 : n ≤ 9223372036854775807) (w : World) :
    (Instr.makeSlice t (.int kl (n : Int)) (.int kc (n : Int))).run P w = .ok (.slice (some ⟨w.heap.size, 0, none⟩) n n) (w.alloc (.cells (madeCells z.cells (n * m)) e)) := by
  have hb : (i.bytes : Int) * (n : Int) ≤ 281474976710656 := by
    have h : ((i.bytes * n : Nat) : Int) ≤ 281474976710656 := by omega
    rwa [Int.natCast_mul] at h
  have hr := run_make (P := P) w t e i z ht hi hz kl kc n n (by omega) (by omega) hb (by omega)
  simp only [Int.toNat_natCast, hs] at hr
  exact hr
/-- A whole block is laid anew by one store. -/
theorem wpList_store_blk {P : Program} {ops : Array Oper} {rest : List Oper} {o : Oper} {a : Act} {Q : Exit → Act → World → Prop} (hgd : o.guard = none) (ty : TypeId) (x y : Operand) (ho : o.op = .store ty x y)
    (g : Nat) (cells : Array Value) (hx : a.eval x = .pointer (some ⟨g, 0, none⟩)) (hy : a.eval y = .agg cells) (t : TypeId) (old : Array Value) (hg : Blk w g t old) (hi : (P.info? ty).map (·.size) = some cells.size)
    (hold : old.size = cells.size) (h1 : cells.all (·.oneCell') = true) (h : ∀ w', Blk w' g t cells → Only g w w' → wpList P ops Q rest (a.put o.dst undef) w') : wpList P ops Q (o :: rest) a w :=
  wpList_plain hgd fun _ hK => wp_store_row ty x y ho g cells hx hy t old hg hi hold h1 (hK _ _ (h _ (setRow_heap w g _ _ t _ hg) ⟨rfl, rfl, rfl, by simp [World.setRow], fun k hk hn => setRow_other w g k _ hn⟩))
/-- Each of a family is known otherwise. -/
theorem Star.weakF {A : List Res} {R' : Nat → Res} {S : Nat → Prop} (h : Star (A ++ (List.range n).map R) w S) (hw : ∀ i, i < n → Ok (R' i) ∧ ∀ T, R i w T → R' i w T) : Star (A ++ (List.range n).map R') w S := by
  obtain ⟨F, f1, f2, f3, f4⟩ := h
  refine ⟨F, fun i R1 hR => ?_, f2, fun i b hb => by simpa using f3 i b hb, f4⟩
  by_cases hi : i < A.length
  · rw [List.getElem?_append_left hi] at hR
    exact f1 i R1 (by rw [List.getElem?_append_left hi]; exact hR)
  · rw [List.getElem?_append_right (by omega)] at hR
    have hn : i - A.length < n := by
      rcases Nat.lt_or_ge (i - A.length) n with h | h
      · exact h
      · rw [List.getElem?_eq_none (by simpa using h)] at hR; cases hR
    have hR' : R' (i - A.length) = R1 := by simpa [hn] using hR
    subst hR'
    have := f1 i (R (i - A.length)) (by rw [List.getElem?_append_right (by omega)]; simp [hn])
    exact ⟨(hw _ hn).1, (hw _ hn).2 _ this.2⟩
/-- A region that draws its order, walked once in the order of the text, WHILE THE WORLD STAYS WITHIN p: whose loads are known in each such world, whose calls leave one. -/
theorem wp_region_in {P : Program} {id : Nat} {Q : Exit → Act → World → Prop} {a : Act} {w : World} {l : List Oper} (p : World → Prop) (hm : P.follows .mixedOrders = true) (hB : Region.lexB .any l.toArray = true) (hp : p w.drew)
    (h : wpQuiet P l.toArray (fun w' => ∃ u : Within p, w' = u.w) (fun a' => ∀ w', (∃ u : Within p, w' = u.w) → Q .normal a' w') l a) : (Code.region id l.toArray true).wp P Q a w :=
  wp_region_quiet (C := fun w' => ∃ u : Within p, w' = u.w) hm hB ⟨⟨_, hp⟩, rfl⟩ (by simpa using h)
theorem in_call {P : Program} {f : FuncId} {args : Array Value} {w : World} {v : Value} {p : World → Prop} (h : Calls P f args w fun e w' => e = .returned v ∧ p w') :
    Calls P f args w fun e w'' => e = .returned v ∧ ∃ u : Within p, w'' = u.w := h.mono fun _ w' ⟨he, hp⟩ => ⟨he, ⟨w', hp⟩, rfl⟩
end
end Go.Proofs.YtdjhpdacglojaaaGreat
