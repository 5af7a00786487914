/- Commands as rows of words: which names there are, what a line says, how a command is told. Plain theorems; nothing of one law. -/
import Derived.Test.YtlceanlenekanaaDoorStrA
import Derived.Test.YtlceanlenekanaaDoorStrB
namespace Go.Proofs.YtlceanlenekanaaDoor
set_option linter.unusedVariables false
/-- How many numbers a command of that name has. -/
def nmS : List (List UInt8 × Nat) := [
  ([115, 116, 97, 114, 116], 0), ([116, 97, 107, 101], 0), ([114, 101, 97, 112], 0), ([102, 114, 101, 101], 0), ([110, 111, 119], 0),
  ([116, 105, 99, 107], 1), ([114, 97, 105, 115, 101], 1), ([109, 97, 115, 107], 1), ([117, 110, 109, 97, 115, 107], 1), ([103, 101, 116], 1), ([115, 104, 97, 114, 101], 1), ([100, 114, 111, 112], 1), ([99, 97, 110, 99, 101, 108], 1),
  ([114, 101, 108, 101, 97, 115, 101], 2), ([119, 97, 107, 101], 2), ([102, 105, 110, 105, 115, 104], 3), ([115, 117, 98, 109, 105, 116], 7)]
def nm (w : List UInt8) : Option Nat := nmS.lookup w
theorem lookup_mem {α β : Type} [BEq α] [LawfulBEq α] {a : α} {b : β} : ∀ {l : List (α × β)}, l.lookup a = some b → (a, b) ∈ l
  | [], h => by cases h
  | (c, d) :: l, h => by
    rw [List.lookup_cons] at h
    by_cases e : a = c
    · subst e
      rw [beq_self_eq_true] at h
      cases h; exact List.mem_cons_self
    · rw [beq_false_of_ne e] at h
      exact List.mem_cons_of_mem _ (lookup_mem h)
theorem nm_all {w : List UInt8} {k : Nat} (h : nm w = some k) : (decide (w ≠ []) && w.all (fun b => !isBl b && !isDg b) && decide (k ≤ 7)) = true := by
  have key : nmS.all (fun x => decide (x.1 ≠ []) && x.1.all (fun b => !isBl b && !isDg b) && decide (x.2 ≤ 7)) = true := by decide
  exact List.all_eq_true.1 key _ (lookup_mem h)
theorem nm_word {w : List UInt8} {k : Nat} (h : nm w = some k) : w ≠ [] ∧ (∀ b ∈ w, isBl b = false) ∧ (∀ b ∈ w, isDg b = false) ∧ k ≤ 7 := by
  have := nm_all h
  rw [Bool.and_eq_true, Bool.and_eq_true] at this
  obtain ⟨⟨h1, h2⟩, h3⟩ := this
  have h2 := List.all_eq_true.1 h2
  refine ⟨of_decide_eq_true h1, fun b hb => ?_, fun b hb => ?_, of_decide_eq_true h3⟩
  · have := h2 b hb
    rw [Bool.and_eq_true] at this; simpa using this.1
  · have := h2 b hb
    rw [Bool.and_eq_true] at this; simpa using this.2
theorem nm_none {w : List UInt8} (h : mayN w = true) : nm w = none := by
  cases e : nm w with
  | none => rfl
  | some k =>
    exfalso
    obtain ⟨h1, _, h2, _⟩ := nm_word e
    match w, h1 with
    | b :: w, _ =>
      rw [mayN_bad List.mem_cons_self (h2 b List.mem_cons_self)] at h
      cases h
theorem nm_nil : nm [] = none := by decide
/-- The command that a row of words is, if it is one. -/
def parseB : List (List UInt8) → Option (List UInt8 × List Nat)
  | [] => none
  | n :: r => if r.all mayN = true ∧ nm n = some r.length then some (n, r.map valB) else none
theorem parseB_cons (n : List UInt8) (r : List (List UInt8)) : parseB (n :: r) = if r.all mayN = true ∧ nm n = some r.length then some (n, r.map valB) else none := rfl
/-- May a command be? -/
def mayC (n : List UInt8) (xs : List Int) : Bool := xs.all (fun x => decide (0 ≤ x ∧ x ≤ 2147483647)) && decide (nm n = some xs.length)
/-- A command as a line. -/
def textB (n : List UInt8) (xs : List Nat) : List UInt8 := n ++ xs.flatMap (fun x => 32 :: digs x)
theorem digs_word (n : Nat) : digs n ≠ [] ∧ ∀ b ∈ digs n, isBl b = false := by
  refine ⟨List.length_pos_iff.1 (digs_len n), fun b hb => ?_⟩
  have := of_decide_eq_true (digs_all n b hb)
  unfold isBl
  have e : ∀ m : UInt8, m.toNat < 48 → (b == m) = false := fun m hm => beq_false_of_ne fun e => by rw [e] at this; omega
  rw [e 32 (by decide), e 9 (by decide), e 10 (by decide), e 13 (by decide)]; rfl
theorem textB_snoc (n : List UInt8) (xs : List Nat) (x : Nat) : textB n (xs ++ [x]) = textB n xs ++ 32 :: digs x := by
  unfold textB
  rw [List.flatMap_append, ← List.append_assoc]
  simp
theorem words_text (n : List UInt8) (xs : List Nat) : wordsB (textB n xs) = wordsB n ++ xs.map digs := by
  have key : ∀ (k : Nat) (xs : List Nat), xs.length = k → wordsB (textB n xs) = wordsB n ++ xs.map digs := by
    intro k
    induction k with
    | zero => intro xs h; obtain rfl := List.length_eq_zero_iff.1 h; simp [textB]
    | succ k ih =>
      intro xs h
      rcases List.eq_nil_or_concat xs with rfl | ⟨m, x, rfl⟩
      · cases h
      rw [List.concat_eq_append] at h ⊢
      rw [textB_snoc, words_blank _ _ (by decide), ih m (by simpa using h), words_one (digs_word x).1 (digs_word x).2]
      simp
  exact key _ xs rfl
theorem words_name {n : List UInt8} {k : Nat} (h : nm n = some k) : wordsB n = [n] := words_one (nm_word h).1 (nm_word h).2.1
/-- A command told is read again. -/
theorem parse_text {n : List UInt8} {xs : List Nat} (h : nm n = some xs.length) (hx : ∀ x ∈ xs, x ≤ 2147483647) : parseB (n :: xs.map digs) = some (n, xs) := by
  rw [parseB_cons]
  have h1 : (xs.map digs).all mayN = true := by
    rw [List.all_eq_true]
    intro w hw
    obtain ⟨x, hxm, rfl⟩ := List.mem_map.1 hw
    rw [mayN_digs]; exact decide_eq_true (hx x hxm)
  rw [if_pos ⟨h1, by rw [List.length_map]; exact h⟩]
  have : (xs.map digs).map valB = xs := by
    rw [List.map_map]
    conv => rhs; rw [← List.map_id xs]
    exact List.map_congr_left fun x _ => digs_val x
  rw [this]
/-- A word more, and blanks behind it. -/
theorem wfold_more {t w bl : List UInt8} (ht : (wfold t).2 = []) (h0 : w ≠ []) (hw : ∀ b ∈ w, isBl b = false) (hb : ∀ b ∈ bl, isBl b = true) : wfold (t ++ (w ++ 32 :: bl)) = ((wfold t).1 ++ [w], []) := by
  have e1 : wfold (t ++ w) = ((wfold t).1, w) := by rw [wfold_word t w hw, ht]; rfl
  have e2 : wfold ((t ++ w) ++ [32]) = ((wfold t).1 ++ [w], []) := by
    rw [wfold_blank _ (by decide)]
    unfold wordsB wend
    rw [e1, if_neg h0]
  have e3 : ∀ (bl : List UInt8) (st : List (List UInt8)), (∀ b ∈ bl, isBl b = true) → bl.foldl wstep (st, []) = (st, []) := by
    intro bl
    induction bl with
    | nil => intro _ _; rfl
    | cons b bl ih =>
      intro st h
      rw [List.foldl_cons, show wstep (st, []) b = (st, []) from by unfold wstep; rw [if_pos (h b List.mem_cons_self)]; simp]
      exact ih st fun c hc => h c (List.mem_cons_of_mem _ hc)
  have e4 : t ++ (w ++ 32 :: bl) = ((t ++ w) ++ [32]) ++ bl := by simp
  rw [e4]
  show ((t ++ w) ++ [32] ++ bl).foldl wstep ([], []) = _
  rw [List.foldl_append]
  show bl.foldl wstep (wfold ((t ++ w) ++ [32])) = _
  rw [e2]; exact e3 bl _ hb
theorem words_more {t w bl : List UInt8} (ht : (wfold t).2 = []) (h0 : w ≠ []) (hw : ∀ b ∈ w, isBl b = false) (hb : ∀ b ∈ bl, isBl b = true) : wordsB (t ++ (w ++ 32 :: bl)) = wordsB t ++ [w] := by
  unfold wordsB
  rw [wfold_more ht h0 hw hb]
  unfold wend
  rw [ht]; simp
/-- A name alone, or with numbers. -/
theorem parse_name (n : List UInt8) {k : Nat} (h : nm n = some k) : (parseB (wordsB n)).isSome = decide (k = 0) := by
  rw [words_name h, parseB_cons]
  by_cases hk : k = 0
  · subst hk; rw [if_pos ⟨rfl, h⟩]; rfl
  · rw [if_neg (fun e => hk (by rw [h] at e; exact Option.some.inj e.2))]
    simp [hk]
theorem parse_names (n : List UInt8) {k : Nat} (h : nm n = some k) (xs : List Nat) (hx : ∀ x ∈ xs, x ≤ 2147483647) : (parseB (wordsB (textB n xs))).isSome = decide (xs.length = k) := by
  rw [words_text, words_name h]
  by_cases hk : xs.length = k
  · subst hk
    show (parseB (n :: xs.map digs)).isSome = _
    rw [parse_text h hx]; simp
  · show (parseB (n :: xs.map digs)).isSome = _
    rw [parseB_cons, if_neg (fun e => hk (by have := e.2; rw [h, List.length_map] at this; exact (Option.some.inj this).symm))]
    simp [hk]
end Go.Proofs.YtlceanlenekanaaDoor
