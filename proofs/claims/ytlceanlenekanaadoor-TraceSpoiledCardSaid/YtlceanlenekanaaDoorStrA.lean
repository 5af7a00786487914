/- Strings as bytes: what a rune is where a byte is no ASCII one; the words of a line. Plain theorems; nothing of one law. -/
import Derived.Laws.RangeString
namespace Go.Proofs.YtlceanlenekanaaDoor
set_option linter.unusedVariables false
theorem decode_big (s : ByteArray) (pos : Nat) (h : pos < s.size) (hb : 128 ≤ (s.get! pos).toNat) : 128 ≤ (Utf8.decode s pos).1 ∧ 1 ≤ (Utf8.decode s pos).2 ∧ pos + (Utf8.decode s pos).2 ≤ s.size ∧ ∀ j, j < (Utf8.decode s pos).2 → 128 ≤ (s.get! (pos + j)).toNat := by
  have e0 : (s.get! (pos + 0)).toNat = (s.get! pos).toNat := by rw [Nat.add_zero]
  have one : ∀ r : Nat, 128 ≤ r → 128 ≤ ((r, 1) : Nat × Nat).1 ∧ 1 ≤ ((r, 1) : Nat × Nat).2 ∧ pos + ((r, 1) : Nat × Nat).2 ≤ s.size ∧ ∀ j, j < ((r, 1) : Nat × Nat).2 → 128 ≤ (s.get! (pos + j)).toNat := fun r hr => ⟨hr, Nat.le_refl _, by show pos + 1 ≤ s.size; omega, fun j hj => by
    have hj : j < 1 := hj
    obtain rfl : j = 0 := by omega
    rw [e0]; exact hb⟩
  unfold Utf8.decode
  simp only [e0]
  rw [if_neg (by omega)]
  have cont : ∀ k, (decide (pos + k < s.size) && (s.get! (pos + k)).toNat / 64 == 2) = true → pos + k < s.size ∧ 128 ≤ (s.get! (pos + k)).toNat := fun k hk => by
    rw [Bool.and_eq_true] at hk
    have h1 := of_decide_eq_true hk.1
    have h2 : (s.get! (pos + k)).toNat / 64 = 2 := by simpa using hk.2
    exact ⟨h1, by omega⟩
  split
  · rename_i hc
    rw [Bool.and_eq_true] at hc
    obtain ⟨c1, c2⟩ := cont 1 hc.2
    split
    · rename_i hv
      exact ⟨hv, by omega, by show pos + 2 ≤ s.size; omega, fun j hj => by
        have hj : j < 2 := hj
        rcases (show j = 0 ∨ j = 1 by omega) with rfl | rfl
        · rw [e0]; exact hb
        · exact c2⟩
    · exact one _ (by decide)
  · split
    · rename_i hc
      rw [Bool.and_eq_true, Bool.and_eq_true] at hc
      obtain ⟨c1, c2⟩ := cont 1 hc.1.2
      obtain ⟨d1, d2⟩ := cont 2 hc.2
      split
      · rename_i hv
        rw [Bool.and_eq_true] at hv
        have hv := of_decide_eq_true hv.1
        exact ⟨by show 128 ≤ _; exact Nat.le_trans (by decide) hv, by omega, by show pos + 3 ≤ s.size; omega, fun j hj => by
          have hj : j < 3 := hj
          rcases (show j = 0 ∨ j = 1 ∨ j = 2 by omega) with rfl | rfl | rfl
          · rw [e0]; exact hb
          · exact c2
          · exact d2⟩
      · exact one _ (by decide)
    · split
      · rename_i hc
        rw [Bool.and_eq_true, Bool.and_eq_true, Bool.and_eq_true] at hc
        obtain ⟨c1, c2⟩ := cont 1 hc.1.1.2
        obtain ⟨d1, d2⟩ := cont 2 hc.1.2
        obtain ⟨f1, f2⟩ := cont 3 hc.2
        split
        · rename_i hv
          rw [Bool.and_eq_true] at hv
          have hv := of_decide_eq_true hv.1
          exact ⟨by show 128 ≤ _; exact Nat.le_trans (by decide) hv, by omega, by show pos + 4 ≤ s.size; omega, fun j hj => by
            have hj : j < 4 := hj
            rcases (show j = 0 ∨ j = 1 ∨ j = 2 ∨ j = 3 by omega) with rfl | rfl | rfl | rfl
            · rw [e0]; exact hb
            · exact c2
            · exact d2
            · exact f2⟩
        · exact one _ (by decide)
      · exact one _ (by decide)
/-! ### The words of a line -/
def isBl (b : UInt8) : Bool := b == 32 || b == 9 || b == 10 || b == 13
def wstep (st : List (List UInt8) × List UInt8) (b : UInt8) : List (List UInt8) × List UInt8 := if isBl b = true then (if st.2 = [] then st.1 else st.1 ++ [st.2], []) else (st.1, st.2 ++ [b])
def wfold (l : List UInt8) : List (List UInt8) × List UInt8 := l.foldl wstep ([], [])
def wend (st : List (List UInt8) × List UInt8) : List (List UInt8) := if st.2 = [] then st.1 else st.1 ++ [st.2]
def wordsB (l : List UInt8) : List (List UInt8) := wend (wfold l)
theorem wfold_nil : wfold [] = ([], []) := rfl
theorem wfold_snoc (l : List UInt8) (b : UInt8) : wfold (l ++ [b]) = wstep (wfold l) b := by unfold wfold; rw [List.foldl_append]; rfl
theorem fold_word (st : List (List UInt8) × List UInt8) : ∀ l : List UInt8, (∀ b ∈ l, isBl b = false) → l.foldl wstep st = (st.1, st.2 ++ l)
  | [], _ => by simp
  | b :: l, h => by
    have hb := h b List.mem_cons_self
    rw [List.foldl_cons, show wstep st b = (st.1, st.2 ++ [b]) from by unfold wstep; rw [hb]; simp, fold_word _ l fun c hc => h c (List.mem_cons_of_mem _ hc)]
    simp
theorem wfold_word (l m : List UInt8) (h : ∀ b ∈ m, isBl b = false) : wfold (l ++ m) = ((wfold l).1, (wfold l).2 ++ m) := by
  unfold wfold; rw [List.foldl_append]; exact fold_word _ m h
theorem wfold_blank (l : List UInt8) {b : UInt8} (h : isBl b = true) : wfold (l ++ [b]) = (wordsB l, []) := by
  rw [wfold_snoc]; unfold wstep wordsB wend; rw [h]; simp
/-- What stands behind the last blank is the end of the line, and has none. -/
theorem wfold_tail (l : List UInt8) : (∃ p, l = p ++ (wfold l).2) ∧ ∀ b ∈ (wfold l).2, isBl b = false := by
  have key : ∀ (k : Nat) (l : List UInt8), l.length = k → (∃ p, l = p ++ (wfold l).2) ∧ ∀ b ∈ (wfold l).2, isBl b = false := by
    intro k
    induction k with
    | zero => intro l hl; obtain rfl := List.length_eq_zero_iff.1 hl; exact ⟨⟨[], rfl⟩, fun b hb => (by cases hb)⟩
    | succ k ih =>
      intro l hl
      rcases List.eq_nil_or_concat l with rfl | ⟨m, b, rfl⟩
      · cases hl
      rw [List.concat_eq_append] at hl ⊢
      obtain ⟨⟨p, hp⟩, hb⟩ := ih m (by simpa using hl)
      by_cases hbl : isBl b = true
      · rw [wfold_blank m hbl]; exact ⟨⟨m ++ [b], by simp⟩, fun c hc => (by cases hc)⟩
      · have hbf : isBl b = false := by simpa using hbl
        rw [wfold_word m [b] (fun c hc => by rw [List.mem_singleton.1 hc]; exact hbf)]
        refine ⟨⟨p, ?_⟩, fun c hc => ?_⟩
        · show m ++ [b] = p ++ ((wfold m).2 ++ [b])
          rw [← List.append_assoc, ← hp]
        · rcases List.mem_append.1 hc with h | h
          · exact hb c h
          · rw [List.mem_singleton.1 h]; exact hbf
  exact key _ l rfl
/-- Words have no blank, and none is empty. -/
theorem fold_words (st : List (List UInt8) × List UInt8) (h1 : ∀ w ∈ st.1, w ≠ [] ∧ ∀ b ∈ w, isBl b = false) (h2 : ∀ b ∈ st.2, isBl b = false) : ∀ l : List UInt8, (∀ w ∈ (l.foldl wstep st).1, w ≠ [] ∧ ∀ b ∈ w, isBl b = false) ∧ ∀ b ∈ (l.foldl wstep st).2, isBl b = false
  | [] => ⟨h1, h2⟩
  | b :: l => by
    rw [List.foldl_cons]
    by_cases hb : isBl b = true
    · refine fold_words _ ?_ ?_ l
      · unfold wstep; rw [if_pos hb]
        intro w hw
        by_cases he : st.2 = []
        · rw [if_pos he] at hw; exact h1 w hw
        · rw [if_neg he] at hw
          rcases List.mem_append.1 hw with hw | hw
          · exact h1 w hw
          · rw [List.mem_singleton.1 hw]; exact ⟨he, h2⟩
      · unfold wstep; rw [if_pos hb]; intro c hc; cases hc
    · refine fold_words _ ?_ ?_ l
      · unfold wstep; rw [if_neg hb]; exact h1
      · unfold wstep; rw [if_neg hb]
        intro c hc
        rcases List.mem_append.1 hc with hc | hc
        · exact h2 c hc
        · rw [List.mem_singleton.1 hc]; simpa using hb
theorem words_good (l : List UInt8) : ∀ w ∈ wordsB l, w ≠ [] ∧ ∀ b ∈ w, isBl b = false := by
  obtain ⟨h1, h2⟩ := fold_words ([], []) (fun w hw => (by cases hw)) (fun b hb => (by cases hb)) l
  intro w hw
  unfold wordsB wend wfold at hw
  by_cases he : (l.foldl wstep ([], [])).2 = []
  · rw [if_pos he] at hw; exact h1 w hw
  · rw [if_neg he] at hw
    rcases List.mem_append.1 hw with hw | hw
    · exact h1 w hw
    · rw [List.mem_singleton.1 hw]; exact ⟨he, h2⟩
/-- Words that came before stay in front. -/
theorem fold_front (a : List (List UInt8)) (st : List (List UInt8) × List UInt8) : ∀ l : List UInt8, l.foldl wstep (a ++ st.1, st.2) = (a ++ (l.foldl wstep st).1, (l.foldl wstep st).2)
  | [] => rfl
  | b :: l => by
    rw [List.foldl_cons, List.foldl_cons]
    have e : wstep (a ++ st.1, st.2) b = (a ++ (wstep st b).1, (wstep st b).2) := by
      unfold wstep
      by_cases hb : isBl b = true
      · rw [if_pos hb, if_pos hb]
        by_cases he : st.2 = []
        · simp [he]
        · simp [he]
      · rw [if_neg hb, if_neg hb]
    rw [e]
    exact fold_front a (wstep st b) l
/-- Two lines with a blank between have the words of both. -/
theorem words_blank (l m : List UInt8) {b : UInt8} (h : isBl b = true) : wordsB (l ++ b :: m) = wordsB l ++ wordsB m := by
  have e : wfold (l ++ b :: m) = (wordsB l ++ (wfold m).1, (wfold m).2) := by
    have : wfold (l ++ b :: m) = m.foldl wstep (wfold (l ++ [b])) := by
      unfold wfold; rw [← List.foldl_append]; simp
    rw [this, wfold_blank l h]
    have := fold_front (wordsB l) ([], []) m
    rw [List.append_nil] at this
    exact this
  unfold wordsB
  rw [e]
  unfold wend
  by_cases he : (wfold m).2 = []
  · rw [if_pos he, if_pos he]; rfl
  · rw [if_neg he, if_neg he, List.append_assoc]; rfl
theorem words_one {l : List UInt8} (h0 : l ≠ []) (h : ∀ b ∈ l, isBl b = false) : wordsB l = [l] := by
  unfold wordsB
  have := wfold_word [] l h
  rw [List.nil_append] at this
  rw [this, wfold_nil]
  unfold wend
  simp [h0]
theorem words_nil : wordsB [] = [] := rfl
/-- Blanks alone have no words; blanks at either end change nothing. -/
theorem words_blanks : ∀ l : List UInt8, (∀ b ∈ l, isBl b = true) → wordsB l = []
  | [], _ => rfl
  | b :: l, h => by
    have := words_blank [] l (h b List.mem_cons_self)
    rw [List.nil_append] at this
    rw [this, words_nil, List.nil_append]
    exact words_blanks l fun c hc => h c (List.mem_cons_of_mem _ hc)
theorem words_ahead : ∀ (x s : List UInt8), (∀ b ∈ x, isBl b = true) → wordsB (x ++ s) = wordsB s
  | [], s, _ => rfl
  | b :: x, s, h => by
    have := words_blank [] (x ++ s) (h b List.mem_cons_self)
    rw [List.nil_append] at this
    rw [List.cons_append, this, words_nil, List.nil_append]
    exact words_ahead x s fun c hc => h c (List.mem_cons_of_mem _ hc)
theorem words_behind (s : List UInt8) : ∀ y : List UInt8, (∀ b ∈ y, isBl b = true) → wordsB (s ++ y) = wordsB s
  | [], _ => by rw [List.append_nil]
  | b :: y, h => by
    rw [words_blank s y (h b List.mem_cons_self), words_blanks y fun c hc => h c (List.mem_cons_of_mem _ hc), List.append_nil]
end Go.Proofs.YtlceanlenekanaaDoor
