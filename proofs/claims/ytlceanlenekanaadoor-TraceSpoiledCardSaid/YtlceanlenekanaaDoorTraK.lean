/- Layer 25, plain: a text read rune by rune into parts, told by its bytes. Nothing of one law. -/
import Derived.Test.YtlceanlenekanaaDoorTraJ
namespace Go.Proofs.YtlceanlenekanaaDoor
open Go.RowKit
set_option linter.unusedVariables false
set_option maxRecDepth 100000
set_option maxHeartbeats 4000000
theorem bt_add (s : ByteArray) (p d e : Nat) : bt s p (d + e) = bt s p d ++ bt s (p + d) e := by
  unfold bt
  rw [List.take_add, List.drop_drop]
theorem bt_nil (s : ByteArray) (p : Nat) : bt s p 0 = [] := by unfold bt; rw [List.take_zero]
theorem spB_dot (l : List UInt8) : spF (l ++ [46]) ([], []) = (spB l).map fun i => (i ++ [.m 46], []) := by
  rw [spF_app]
  unfold spB
  cases spF l ([], []) with
  | none => rfl
  | some s =>
    show (spS s 46).bind (spF []) = (flush s).map _
    unfold spS
    rw [if_neg (by decide)]
    cases flush s with
    | none => rfl
    | some i => rfl
/-- What is told of a text read up to a byte, digits that stand ahead left unread. -/
structure SpI (T : ByteArray) (pos d : Nat) (its : List It) : Prop where
  h1 : d ≤ pos
  h2 : its.length + d ≤ pos
  h3 : ∀ x, It.n x ∈ its → 0 ≤ x ∧ x ≤ 2147483647
  low : (∀ b ∈ tk T pos, b.toNat < 128) → spF (tk T pos) ([], []) = some (its, bt T (pos - d) d)
  high : (∃ b ∈ tk T pos, 128 ≤ b.toNat) → ∃ r : Int, 128 ≤ r ∧ It.m r ∈ its
  last : pos = T.size → ∃ l, its = l ++ [.m 46]
theorem SpI.zero {T : ByteArray} (h : 0 < T.size) : SpI T 0 0 [] :=
  ⟨Nat.le_refl _, Nat.le_refl _, fun x hx => (by cases hx), fun _ => (by rw [bt_nil]; rfl), fun ⟨b, hb, _⟩ => (by cases hb), fun e => by omega⟩
theorem SpI.digit {T : ByteArray} {pos d : Nat} {its : List It} (h : SpI T pos d its) (hl : ∀ p, p + 1 = T.size → T.get! p = 46) (hp : pos < T.size) (h1 : 48 ≤ (Utf8.decode T pos).1) (h2 : (Utf8.decode T pos).1 ≤ 57) : (Utf8.decode T pos).2 = 1 ∧ SpI T (pos + 1) (d + 1) its := by
  obtain ⟨e1, e2⟩ := dec_low T hp (by omega)
  have hone := bt_one T hp
  have hb : isDg (T.get! pos) = true := by unfold isDg; rw [e1]; exact decide_eq_true ⟨h1, h2⟩
  have hadd : tk T (pos + 1) = tk T pos ++ [T.get! pos] := by rw [tk_add, hone]
  have hd := h.h1
  refine ⟨e2, ⟨by omega, by have := h.h2; omega, h.h3, fun hall => ?_, fun ⟨b, hb1, hb2⟩ => ?_, fun e => ?_⟩⟩
  · rw [hadd] at hall ⊢
    rw [spF_app, h.low fun b hb => hall b (List.mem_append_left _ hb), bt_add, show pos + 1 - (d + 1) = pos - d by omega, show pos - d + d = pos by omega, hone]
    show (spS _ _).bind (spF []) = _
    unfold spS
    rw [if_pos hb]
    rfl
  · rw [hadd] at hb1
    rcases List.mem_append.1 hb1 with hb1 | hb1
    · exact h.high ⟨b, hb1, hb2⟩
    · rw [List.mem_singleton] at hb1
      rw [hb1, e1] at hb2
      omega
  · have := hl pos e
    rw [this] at e1
    have : (46 : UInt8).toNat = 46 := rfl
    omega
theorem flush_in {its its' : List It} {ds : List UInt8} (hf : flush (its, ds) = some its') : (ds = [] ∧ its' = its) ∨ (ds ≠ [] ∧ mayN ds = true ∧ its' = its ++ [.n (valB ds : Nat)]) := by
  unfold flush at hf
  by_cases h : ds = []
  · rw [if_pos h] at hf; injection hf with hf; exact Or.inl ⟨h, hf.symm⟩
  · rw [if_neg h] at hf
    by_cases hm : mayN ds = true
    · rw [if_pos hm] at hf; injection hf with hf; exact Or.inr ⟨h, hm, hf.symm⟩
    · rw [if_neg hm] at hf; cases hf
theorem mayN_max {l : List UInt8} (h : mayN l = true) : valB l ≤ 2147483647 := by
  unfold mayN at h
  simp only [Bool.and_eq_true, decide_eq_true_eq] at h
  exact h.2
theorem SpI.mark {T : ByteArray} {pos d : Nat} {its its' : List It} (h : SpI T pos d its) (hl : ∀ p, p + 1 = T.size → T.get! p = 46) (hp : pos < T.size) (hr : (Utf8.decode T pos).1 < 48 ∨ 57 < (Utf8.decode T pos).1) (hf : flush (its, bt T (pos - d) d) = some its') :
    1 ≤ (Utf8.decode T pos).2 ∧ pos + (Utf8.decode T pos).2 ≤ T.size ∧ SpI T (pos + (Utf8.decode T pos).2) 0 (its' ++ [.m ((Utf8.decode T pos).1 : Nat)]) := by
  have hd := h.h1
  have hk : (∀ y, y ∈ its → y ∈ its') ∧ its'.length ≤ its.length + d ∧ ∀ x, It.n x ∈ its' → 0 ≤ x ∧ x ≤ 2147483647 := by
    rcases flush_in hf with ⟨_, rfl⟩ | ⟨hne, hm, rfl⟩
    · exact ⟨fun y hy => hy, by omega, h.h3⟩
    · have : 1 ≤ d := by
        rcases Nat.eq_zero_or_pos d with rfl | hd
        · exact absurd (bt_nil _ _) hne
        · exact hd
      refine ⟨fun y hy => List.mem_append_left _ hy, by rw [List.length_append]; show _ + 1 ≤ _; omega, fun x hx => ?_⟩
      rcases List.mem_append.1 hx with hx | hx
      · exact h.h3 x hx
      · rw [List.mem_singleton] at hx
        injection hx with hx
        have := mayN_max hm
        omega
  obtain ⟨k1, k2, k3⟩ := hk
  have h2 := h.h2
  have n3 : ∀ (r x : Int), It.n x ∈ its' ++ [.m r] → 0 ≤ x ∧ x ≤ 2147483647 := fun r x hx => by
    rcases List.mem_append.1 hx with hx | hx
    · exact k3 x hx
    · rw [List.mem_singleton] at hx; cases hx
  by_cases hlow : (Utf8.decode T pos).1 < 128
  · obtain ⟨e1, e2⟩ := dec_low T hp hlow
    rw [e2]
    have hone := bt_one T hp
    have hb : isDg (T.get! pos) = false := by unfold isDg; rw [e1]; exact decide_eq_false (by omega)
    have hadd : tk T (pos + 1) = tk T pos ++ [T.get! pos] := by rw [tk_add, hone]
    refine ⟨Nat.le_refl _, by omega, ⟨by omega, by rw [List.length_append]; show _ + 1 + 0 ≤ _; omega, n3 _, fun hall => ?_, fun ⟨b, hb1, hb2⟩ => ?_, fun e => ?_⟩⟩
    · rw [hadd] at hall ⊢
      rw [spF_app, h.low fun b hb => hall b (List.mem_append_left _ hb), bt_nil]
      show (spS _ _).bind (spF []) = _
      unfold spS
      rw [if_neg (by rw [hb]; exact Bool.false_ne_true), hf, e1]
      rfl
    · rw [hadd] at hb1
      rcases List.mem_append.1 hb1 with hb1 | hb1
      · obtain ⟨r, r1, r2⟩ := h.high ⟨b, hb1, hb2⟩
        exact ⟨r, r1, List.mem_append_left _ (k1 _ r2)⟩
      · rw [List.mem_singleton] at hb1
        rw [hb1, e1] at hb2
        omega
    · rw [hl pos e] at e1
      exact ⟨its', by rw [← e1]; rfl⟩
  · obtain ⟨e1, e2, e3⟩ := dec_high T hp (by omega)
    have hlen := bt_len T e2
    refine ⟨e1, e2, ⟨by omega, by rw [List.length_append]; show _ + 1 + 0 ≤ _; omega, n3 _, fun hall => ?_, fun _ => ⟨_, by omega, List.mem_append_right _ (List.mem_singleton.2 rfl)⟩, fun e => ?_⟩⟩
    · exfalso
      obtain ⟨b, hb⟩ : ∃ b, b ∈ bt T pos (Utf8.decode T pos).2 := by
        cases hc : bt T pos (Utf8.decode T pos).2 with
        | nil => rw [hc] at hlen; have : 0 = (Utf8.decode T pos).2 := hlen; omega
        | cons b l => exact ⟨b, List.mem_cons_self⟩
      have a1 := e3 b hb
      have a2 := hall b (by rw [tk_add]; exact List.mem_append_right _ hb)
      omega
    · exfalso
      have g1 := bt_get T e2 (j := (Utf8.decode T pos).2 - 1) (by omega)
      have g2 := e3 _ (List.mem_of_getElem? g1)
      rw [hl _ (by omega)] at g2
      have : (46 : UInt8).toNat = 46 := rfl
      omega
theorem SpI.none {T : ByteArray} {pos d : Nat} {its : List It} (h : SpI T pos d its) (hp : pos < T.size) (hr : (Utf8.decode T pos).1 < 48 ∨ 57 < (Utf8.decode T pos).1) (hf : flush (its, bt T (pos - d) d) = none) (hall : ∀ b ∈ T.data.toList, b.toNat < 128) : spF T.data.toList ([], []) = none := by
  have hw : T.data.toList = tk T pos ++ (bt T pos 1 ++ bt T (pos + 1) (T.size - pos - 1)) := by
    rw [← bt_add, ← tk_add, ← tk_size]
    congr 1
    omega
  have hlow : (Utf8.decode T pos).1 < 128 := by
    refine Decidable.byContradiction fun hn => ?_
    obtain ⟨e1, e2, e3⟩ := dec_high T hp (by omega)
    have g1 := bt_get T e2 (j := 0) (by omega)
    have g2 := e3 _ (List.mem_of_getElem? g1)
    have g3 := hall (T.get! (pos + 0)) (by
      rw [hw, bt_one T hp]
      exact List.mem_append_right _ (List.mem_append_left _ (List.mem_singleton.2 rfl)))
    omega
  obtain ⟨e1, e2⟩ := dec_low T hp hlow
  have hb : isDg (T.get! pos) = false := by unfold isDg; rw [e1]; exact decide_eq_false (by omega)
  rw [hw, spF_app, h.low fun b hb => hall b (by rw [hw]; exact List.mem_append_left _ hb), bt_one T hp]
  show (spS _ _).bind (spF _) = Option.none
  unfold spS
  rw [if_neg (by rw [hb]; exact Bool.false_ne_true), hf]
  rfl
/-- What split says: of a text of ASCII its parts; of another, parts with a mark beyond them. -/
structure SpO (s : List UInt8) (r : Option (List It)) : Prop where
  low : (∀ b ∈ s, b.toNat < 128) → r = spB s
  high : ∀ l, r = some l → (∃ b ∈ s, 128 ≤ b.toNat) → ∃ m : Int, 128 ≤ m ∧ It.m m ∈ l
  nums : ∀ l, r = some l → ∀ x, It.n x ∈ l → 0 ≤ x ∧ x ≤ 2147483647
theorem low_dot {l : List UInt8} (h : ∀ b ∈ l, b.toNat < 128) : ∀ b ∈ l ++ [46], b.toNat < 128 := fun b hb => by
  rcases List.mem_append.1 hb with hb | hb
  · exact h b hb
  · rw [List.mem_singleton] at hb; rw [hb]; decide
theorem SpI.fail {s : List UInt8} {T : ByteArray} (hT : T.data.toList = s ++ [46]) {pos d : Nat} {its : List It} (h : SpI T pos d its) (hp : pos < T.size) (hr : (Utf8.decode T pos).1 < 48 ∨ 57 < (Utf8.decode T pos).1) (hf : flush (its, bt T (pos - d) d) = Option.none) : SpO s Option.none := by
  refine ⟨fun hall => ?_, fun l hl => (by cases hl), fun l hl => (by cases hl)⟩
  have := h.none hp hr hf (by rw [hT]; exact low_dot hall)
  rw [hT, spB_dot] at this
  cases hs : spB s with
  | none => rfl
  | some i => rw [hs] at this; cases this
theorem SpI.done {s : List UInt8} {T : ByteArray} (hT : T.data.toList = s ++ [46]) {d : Nat} {its : List It} (h : SpI T T.size d its) : ∃ l, its = l ++ [.m 46] ∧ SpO s (some l) := by
  obtain ⟨l, rfl⟩ := h.last rfl
  refine ⟨l, rfl, ⟨fun hall => ?_, fun l' e hh => ?_, fun l' e x hx => ?_⟩⟩
  · have := h.low (by rw [tk_size, hT]; exact low_dot hall)
    rw [tk_size, hT, spB_dot] at this
    cases hs : spB s with
    | none => rw [hs] at this; cases this
    | some i =>
      rw [hs] at this
      injection this with this
      injection this with this
      rw [List.append_cancel_right this]
  · injection e with e
    subst e
    obtain ⟨b, hb1, hb2⟩ := hh
    obtain ⟨r, r1, r2⟩ := h.high ⟨b, by rw [tk_size, hT]; exact List.mem_append_left _ hb1, hb2⟩
    rcases List.mem_append.1 r2 with r2 | r2
    · exact ⟨r, r1, r2⟩
    · rw [List.mem_singleton] at r2
      injection r2 with r2
      omega
  · injection e with e
    subst e
    exact h.h3 x (List.mem_append_left _ hx)
theorem dot_bytes (s : ByteArray) : (s ++ (⟨#[46]⟩ : ByteArray)).data.toList = s.data.toList ++ [46] := by rw [ByteArray.data_append, Array.toList_append]
theorem dot_size (s : ByteArray) : (s ++ (⟨#[46]⟩ : ByteArray)).size = s.size + 1 := by rw [ByteArray.size_append]; rfl
theorem dot_last (s : ByteArray) : ∀ p, p + 1 = (s ++ (⟨#[46]⟩ : ByteArray)).size → (s ++ (⟨#[46]⟩ : ByteArray)).get! p = 46 := fun p hp => by
  rw [get_bang _ (by omega)]
  rw [dot_size] at hp
  have : s.data.toList.length = p := by rw [Array.length_toList]; show s.size = p; omega
  have h : (s ++ (⟨#[46]⟩ : ByteArray)).data.toList[p]? = some 46 := by
    rw [dot_bytes, List.getElem?_append_right (by omega), this, Nat.sub_self]
    rfl
  rw [List.getElem?_eq_some_iff] at h
  exact h.2
/-- Where the bytes of s and of s with a dot behind it are the same. -/
theorem dot_bt (s : ByteArray) {p d : Nat} (h : p + d ≤ s.size) : bt (s ++ (⟨#[46]⟩ : ByteArray)) p d = bt s p d := by
  unfold bt
  rw [dot_bytes, List.drop_append_of_le_length (by rw [Array.length_toList]; show p ≤ s.size; omega), List.take_append_of_le_length (by rw [List.length_drop, Array.length_toList]; show d ≤ s.size - p; omega)]
end Go.Proofs.YtlceanlenekanaaDoor
