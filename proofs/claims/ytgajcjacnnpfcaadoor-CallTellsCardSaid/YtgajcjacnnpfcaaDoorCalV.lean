/- Layer 21: what a line's command is bounded by; blanks. -/
import Derived.Test.YtgajcjacnnpfcaaDoorCalU
namespace Go.Proofs.YtgajcjacnnpfcaaDoor
open Go.RowKit
set_option linter.unusedVariables false
set_option maxRecDepth 100000
set_option maxHeartbeats 4000000
theorem wfold_short : ∀ (k : Nat) (l : List UInt8), l.length = k → (∀ u ∈ (wfold l).1, u.length ≤ k) ∧ (wfold l).2.length ≤ k := by
  intro k
  induction k with
  | zero => intro l h; obtain rfl := List.length_eq_zero_iff.1 h; exact ⟨fun u hu => (by cases hu), Nat.le_refl _⟩
  | succ k ih =>
    intro l h
    rcases List.eq_nil_or_concat l with rfl | ⟨m, b, rfl⟩
    · cases h
    rw [List.concat_eq_append] at h ⊢
    obtain ⟨h1, h2⟩ := ih m (by simpa using h)
    rw [wfold_snoc]
    unfold wstep
    by_cases hb : isBl b = true
    · rw [if_pos hb]
      refine ⟨fun u hu => ?_, Nat.zero_le _⟩
      by_cases he : (wfold m).2 = []
      · rw [if_pos he] at hu; have := h1 u hu; omega
      · rw [if_neg he] at hu
        rcases List.mem_append.1 hu with hu | hu
        · have := h1 u hu; omega
        · rw [List.mem_singleton.1 hu]; omega
    · rw [if_neg hb]
      refine ⟨fun u hu => by have := h1 u hu; omega, ?_⟩
      show ((wfold m).2 ++ [b]).length ≤ _
      rw [List.length_append]
      show _ + 1 ≤ _
      omega
theorem words_short {l u : List UInt8} (h : u ∈ wordsB l) : u.length ≤ l.length := by
  obtain ⟨h1, h2⟩ := wfold_short _ l rfl
  rw [wfin] at h
  by_cases he : (wfold l).2 = []
  · rw [if_pos he] at h; exact h1 u h
  · rw [if_neg he] at h
    rcases List.mem_append.1 h with h | h
    · exact h1 u h
    · rw [List.mem_singleton.1 h]; exact h2
theorem wordsB_len (l : List UInt8) : (wordsB l).length ≤ l.length := by
  have := words_len ⟨l.toArray⟩
  exact this
/-- What is told of a line's command is bounded by the line. -/
theorem parse_small (l : List UInt8) : (pN (parseB (wordsB l))).length ≤ l.length ∧ (pX (parseB (wordsB l))).length ≤ l.length ∧ ∀ x ∈ pX (parseB (wordsB l)), 0 ≤ x ∧ x ≤ 2147483647 := by
  have hw := wordsB_len l
  cases hp : parseB (wordsB l) with
  | none => exact ⟨Nat.zero_le _, Nat.zero_le _, fun x hx => (by cases hx)⟩
  | some p =>
    obtain ⟨n, r, h1, h2, _, h4⟩ := parseB_is (us := wordsB l) (by rw [hp]; rfl)
    rw [h4] at hp
    rw [← Option.some.inj hp]
    refine ⟨words_short (h1 ▸ List.mem_cons_self), ?_, numsI_in h2⟩
    show (numsI r).length ≤ _
    rw [numsI_len]
    rw [h1, List.length_cons] at hw
    omega
/-- A text, told of what a line said, whatever else is there. -/
theorem text_st {W w : World} {L : List Res} (nb : List UInt8) (B : Option Addr) (k c : Nat) (X : List Int) (hT : TabB W.heap.size W) (hk : X.length = k) (hk2 : k ≤ 1000) (hnb : nb.length ≤ 1000) (hx : ∀ x ∈ X, 0 ≤ x ∧ x ≤ 2147483647) (s : St W None w L) (i : Nat) (hi : L[i]? = some (LisR 3 1 (.slice B k c) k (ivI X))) :
    Calls Tryd.prog 19 #[.agg #[.string ⟨nb.toArray⟩, .slice B k c]] w fun e w' => e = .returned (stV (textO nb X)) ∧ Below w.heap.size w w' :=
  text_o nb B k c X w hk hk2 hnb (fun x h => by have := hx x h; omega) (s.rdc i hi).1.ints ((hT.at_ (Nat.le_refl _) s.below).up s.size)
theorem stV_more (l : List UInt8) (b : UInt8) : Value.string ((⟨l.toArray⟩ : ByteArray) ++ (⟨#[b]⟩ : ByteArray)) = stV (l ++ [b]) := by
  unfold stV
  congr 1
  all_goals
    apply WideShapes.bytes_inj
    simp
def allBl (l : List UInt8) : Prop := ∀ b ∈ l, isBl b = true
theorem allBl_more {l : List UInt8} {b : UInt8} (h : allBl l) (hb : isBl b = true) : allBl (l ++ [b]) := fun c hc => by
  rcases List.mem_append.1 hc with hc | hc
  · exact h c hc
  · rw [List.mem_singleton.1 hc]; exact hb
end Go.Proofs.YtgajcjacnnpfcaaDoor
