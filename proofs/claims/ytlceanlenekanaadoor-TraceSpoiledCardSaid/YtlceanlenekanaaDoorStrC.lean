/- A string read rune by rune, told by its bytes: one step of the words, one step of a number. Plain theorems; nothing of one law. -/
import Derived.Test.YtlceanlenekanaaDoorStrA
import Derived.Test.YtlceanlenekanaaDoorStrB
namespace Go.Proofs.YtlceanlenekanaaDoor
set_option linter.unusedVariables false
/-- The bytes ahead of a place. -/
def tk (s : ByteArray) (pos : Nat) : List UInt8 := s.data.toList.take pos
theorem tk_zero (s : ByteArray) : tk s 0 = [] := rfl
theorem tk_size (s : ByteArray) : tk s s.size = s.data.toList := by
  unfold tk
  exact List.take_of_length_le (by rw [Array.length_toList]; exact Nat.le_refl _)
theorem tk_len (s : ByteArray) {pos : Nat} (h : pos ≤ s.size) : (tk s pos).length = pos := by
  unfold tk
  rw [List.length_take, Array.length_toList]
  have : s.data.size = s.size := rfl
  omega
theorem get_bang (s : ByteArray) {pos : Nat} (h : pos < s.size) : s.get! pos = s.data.toList[pos]'(by rw [Array.length_toList]; exact h) := by
  have h' : pos < s.data.size := h
  show s.data[pos]! = _
  rw [getElem!_pos s.data pos h']
  rfl
/-- The bytes from a place on, some of them. -/
def bt (s : ByteArray) (pos d : Nat) : List UInt8 := (s.data.toList.drop pos).take d
theorem tk_add (s : ByteArray) (pos d : Nat) : tk s (pos + d) = tk s pos ++ bt s pos d := by
  unfold tk bt
  rw [List.take_add]
theorem bt_len (s : ByteArray) {pos d : Nat} (h : pos + d ≤ s.size) : (bt s pos d).length = d := by
  unfold bt
  rw [List.length_take, List.length_drop, Array.length_toList]
  have : s.data.size = s.size := rfl
  omega
theorem bt_get (s : ByteArray) {pos d j : Nat} (h : pos + d ≤ s.size) (hj : j < d) : (bt s pos d)[j]? = some (s.get! (pos + j)) := by
  unfold bt
  rw [get_bang s (by omega), List.getElem?_take_of_lt hj, List.getElem?_drop]
  exact List.getElem?_eq_getElem _
theorem bt_mem (s : ByteArray) {pos d : Nat} (h : pos + d ≤ s.size) {P : UInt8 → Prop} (hp : ∀ j, j < d → P (s.get! (pos + j))) : ∀ b ∈ bt s pos d, P b := by
  intro b hb
  obtain ⟨j, hj⟩ := List.mem_iff_getElem?.1 hb
  have hj' : j < d := by
    have := (List.getElem?_eq_some_iff.1 hj).1
    rw [bt_len s h] at this; exact this
  rw [bt_get s h hj'] at hj
  rw [← Option.some.inj hj]; exact hp j hj'
theorem bt_one (s : ByteArray) {pos : Nat} (h : pos < s.size) : bt s pos 1 = [s.get! pos] := by
  have hl := bt_len s (pos := pos) (d := 1) (by omega)
  have hg := bt_get s (pos := pos) (d := 1) (j := 0) (by omega) (by omega)
  match hb : bt s pos 1, hl with
  | [b], _ => rw [hb] at hg; exact congrArg (fun x => [x]) (Option.some.inj hg)
/-- A rune below 128 is the byte; every other has bytes from 128 on alone. -/
theorem dec_low (s : ByteArray) {pos : Nat} (h : pos < s.size) (hr : (Utf8.decode s pos).1 < 128) : (s.get! pos).toNat = (Utf8.decode s pos).1 ∧ (Utf8.decode s pos).2 = 1 := by
  by_cases hb : 128 ≤ (s.get! pos).toNat
  · have := (decode_big s pos h hb).1
    omega
  · have e : s.get! pos = s[pos]'h := get_bang s h
    rw [e] at hb ⊢
    have := decode_ascii s pos h (by omega)
    rw [this]; exact ⟨rfl, rfl⟩
theorem dec_high (s : ByteArray) {pos : Nat} (h : pos < s.size) (hr : 128 ≤ (Utf8.decode s pos).1) : 1 ≤ (Utf8.decode s pos).2 ∧ pos + (Utf8.decode s pos).2 ≤ s.size ∧ ∀ b ∈ bt s pos (Utf8.decode s pos).2, 128 ≤ b.toNat := by
  by_cases hb : 128 ≤ (s.get! pos).toNat
  · obtain ⟨_, h1, h2, h3⟩ := decode_big s pos h hb
    exact ⟨h1, h2, bt_mem s h2 h3⟩
  · exfalso
    have e : s.get! pos = s[pos]'h := get_bang s h
    rw [e] at hb
    have := decode_ascii s pos h (by omega)
    rw [this] at hr
    have hr : 128 ≤ (s[pos]'h).toNat := hr
    omega
/-- Is a rune a blank? -/
def isBr (r : Nat) : Bool := decide (r = 32 ∨ r = 9 ∨ r = 10 ∨ r = 13)
theorem isBl_nat (b : UInt8) : isBl b = isBr b.toNat := by
  unfold isBl isBr
  have e : ∀ n : UInt8, (b == n) = decide (b.toNat = n.toNat) := fun n => by
    by_cases h : b = n
    · subst h; simp
    · have : ¬ b.toNat = n.toNat := fun e => h (UInt8.toNat_inj.1 e)
      simp [h, this]
  rw [e 32, e 9, e 10, e 13]
  show (decide (b.toNat = 32) || decide (b.toNat = 9) || decide (b.toNat = 10) || decide (b.toNat = 13)) = _
  simp only [Bool.decide_or, Bool.or_assoc]
/-! ### A step of the words -/
theorem step_blank (s : ByteArray) {pos : Nat} (h : pos < s.size) (hr : isBr (Utf8.decode s pos).1 = true) : (Utf8.decode s pos).2 = 1 ∧ wfold (tk s (pos + 1)) = (wordsB (tk s pos), []) := by
  have hlt : (Utf8.decode s pos).1 < 128 := by
    have := of_decide_eq_true hr
    omega
  obtain ⟨h1, h2⟩ := dec_low s h hlt
  refine ⟨h2, ?_⟩
  rw [tk_add, bt_one s h, wfold_blank _ (by rw [isBl_nat, h1]; exact hr)]
theorem step_word (s : ByteArray) {pos : Nat} (h : pos < s.size) (hr : isBr (Utf8.decode s pos).1 = false) : 1 ≤ (Utf8.decode s pos).2 ∧ pos + (Utf8.decode s pos).2 ≤ s.size ∧
    wfold (tk s (pos + (Utf8.decode s pos).2)) = ((wfold (tk s pos)).1, (wfold (tk s pos)).2 ++ bt s pos (Utf8.decode s pos).2) := by
  by_cases hlt : (Utf8.decode s pos).1 < 128
  · obtain ⟨h1, h2⟩ := dec_low s h hlt
    rw [h2]
    refine ⟨Nat.le_refl _, by omega, ?_⟩
    rw [tk_add]
    exact wfold_word _ _ fun b hb => by
      rw [bt_one s h, List.mem_singleton] at hb
      rw [hb, isBl_nat, h1]; exact hr
  · obtain ⟨h1, h2, h3⟩ := dec_high s h (by omega)
    refine ⟨h1, h2, ?_⟩
    rw [tk_add]
    exact wfold_word _ _ fun b hb => by
      have := h3 b hb
      rw [isBl_nat]
      exact decide_eq_false (by omega)
/-- The word under way begins there. -/
def wbeg (s : ByteArray) (pos : Nat) : Nat := pos - (wfold (tk s pos)).2.length
theorem wbeg_le (s : ByteArray) (pos : Nat) : wbeg s pos ≤ pos := Nat.sub_le _ _
theorem wtail_len (s : ByteArray) {pos : Nat} (h : pos ≤ s.size) : (wfold (tk s pos)).2.length ≤ pos := by
  obtain ⟨⟨p, hp⟩, _⟩ := wfold_tail (tk s pos)
  have := congrArg List.length hp
  rw [tk_len s h, List.length_append] at this
  omega
theorem wbeg_word (s : ByteArray) {pos : Nat} (h : pos ≤ s.size) : (wfold (tk s pos)).2 = bt s (wbeg s pos) (pos - wbeg s pos) := by
  obtain ⟨⟨p, hp⟩, _⟩ := wfold_tail (tk s pos)
  have hl := wtail_len s h
  have hpl : p.length = wbeg s pos := by
    have := congrArg List.length hp
    rw [tk_len s h, List.length_append] at this
    unfold wbeg
    omega
  have e : tk s pos = tk s (wbeg s pos) ++ bt s (wbeg s pos) (pos - wbeg s pos) := by
    rw [← tk_add, show wbeg s pos + (pos - wbeg s pos) = pos by have := wbeg_le s pos; omega]
  have := hp.symm.trans e
  exact (List.append_inj this (by rw [hpl, tk_len s (by have := wbeg_le s pos; omega)])).2
theorem wbeg_some (s : ByteArray) {pos : Nat} (h : pos ≤ s.size) : wbeg s pos < pos ↔ (wfold (tk s pos)).2 ≠ [] := by
  have := wtail_len s h
  unfold wbeg
  constructor
  · intro h1 h2; rw [h2] at h1; simp at h1
  · intro h1
    have := List.length_pos_iff.2 h1
    omega
theorem wbeg_zero (s : ByteArray) : wbeg s 0 = 0 := rfl
theorem wbeg_blank (s : ByteArray) {pos : Nat} (h : pos < s.size) (hr : isBr (Utf8.decode s pos).1 = true) : wbeg s (pos + 1) = pos + 1 := by
  unfold wbeg
  rw [(step_blank s h hr).2]
  rfl
theorem wbeg_step (s : ByteArray) {pos : Nat} (h : pos < s.size) (hr : isBr (Utf8.decode s pos).1 = false) : wbeg s (pos + (Utf8.decode s pos).2) = wbeg s pos := by
  obtain ⟨h1, h2, h3⟩ := step_word s h hr
  unfold wbeg
  rw [h3, List.length_append, bt_len s h2]
  have := wtail_len s (pos := pos) (by omega)
  omega
/-! ### A step of a number -/
theorem step_digit (s : ByteArray) {pos : Nat} (h : pos < s.size) (h1 : 48 ≤ (Utf8.decode s pos).1) (h2 : (Utf8.decode s pos).1 ≤ 57) :
    (Utf8.decode s pos).2 = 1 ∧ (tk s (pos + 1)).all isDg = (tk s pos).all isDg ∧ valB (tk s (pos + 1)) = 10 * valB (tk s pos) + ((Utf8.decode s pos).1 - 48) := by
  obtain ⟨e1, e2⟩ := dec_low s h (by omega)
  refine ⟨e2, ?_, ?_⟩
  · rw [tk_add, bt_one s h, List.all_append]
    have : isDg (s.get! pos) = true := decide_eq_true (by omega)
    simp [this]
  · rw [tk_add, bt_one s h]
    show valF 0 _ = _
    rw [valF_snoc, e1]; rfl
theorem step_none (s : ByteArray) {pos : Nat} (h : pos < s.size) (hr : (Utf8.decode s pos).1 < 48 ∨ 57 < (Utf8.decode s pos).1) : s.data.toList.all isDg = false := by
  have hm : s.get! pos ∈ s.data.toList := by rw [get_bang s h]; exact List.getElem_mem _
  have hn : isDg (s.get! pos) = false := by
    by_cases hlt : (Utf8.decode s pos).1 < 128
    · have := (dec_low s h hlt).1
      exact decide_eq_false (by omega)
    · by_cases hb : 128 ≤ (s.get! pos).toNat
      · exact decide_eq_false (by omega)
      · exfalso
        have e : s.get! pos = s[pos]'h := get_bang s h
        rw [e] at hb
        have := decode_ascii s pos h (by omega)
        rw [this] at hlt
        have hlt : ¬ (s[pos]'h).toNat < 128 := hlt
        omega
  rw [Bool.eq_false_iff]
  intro ha
  have := List.all_eq_true.1 ha _ hm
  rw [hn] at this
  exact absurd this (by decide)
end Go.Proofs.YtlceanlenekanaaDoor
