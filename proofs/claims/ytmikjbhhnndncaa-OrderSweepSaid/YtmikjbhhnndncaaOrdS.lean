/- Layer 18: taken on the way, up and then down. Plain theorems. -/
import Derived.Test.YtmikjbhhnndncaaOrdB
namespace Go.Proofs.Ytmikjbhhnndncaa
open Go.RowKit
set_option linter.unusedVariables false
structure Sweep (s : OSt) (h0 last : Int) (down : Bool) (k : Nat) : Prop where
  ok : s.ok
  len : s.l.length = k
  dead : ∀ x ∈ s.l, x.dead = 5
  hd : s.head = last
  way : s.up = !down
  rise : down = false → h0 ≤ last ∧ ∀ x ∈ s.l, x.track < h0 ∨ last ≤ x.track
  fall : down = true → ∀ x ∈ s.l, x.track ≤ last
theorem Sweep.first {s : OSt} {h0 last : Int} {down : Bool} {k : Nat} (h : Sweep s h0 last down (k + 1)) : firstD s.l = 5 := by
  obtain ⟨x, hx, e⟩ := firstD_mem h.ok (fun e => by have := h.len; rw [e] at this; simp at this)
  rw [← e]; exact h.dead x hx
theorem Sweep.next {s : OSt} {h0 last : Int} {down : Bool} {k : Nat} (h : Sweep s h0 last down (k + 1)) : ∃ (x : Wt) (s' : OSt) (d : Bool), TakeP s x 0 s' ∧ Sweep s' h0 x.track d k ∧ ((down = true ∧ d = true ∧ x.track ≤ last) ∨ (down = false ∧ d = false ∧ last ≤ x.track) ∨ (down = false ∧ d = true ∧ x.track < last ∧ x.track < h0)) := by
  have hf := h.first
  obtain ⟨x, up, f, hn⟩ := nextP_ex h.ok
  have hn0 := hn
  have hc : ∀ y ∈ s.l, ∀ u, 0 ≤ off u s.head y.track → cand s u y := fun y hy u ho => ⟨by rw [hf]; exact h.dead y hy, ho⟩
  have key : ∀ u, NearP s u s.l.length (some x) → ∃ i : Nat, s.l[i]? = some x ∧ 0 ≤ off u s.head x.track ∧ ∀ y ∈ s.l.eraseIdx i, 0 ≤ off u s.head y.track → off u s.head x.track ≤ off u s.head y.track := fun u hu => by
    obtain ⟨⟨i, hi, hx⟩, hcx, hle⟩ := hu
    refine ⟨i, hx, hcx.2, fun y hy ho => ?_⟩
    have hy2 := List.mem_of_mem_eraseIdx hy
    obtain ⟨j, hj⟩ := List.mem_iff_getElem?.1 hy2
    have h1 := hle j y (List.getElem?_eq_some_iff.1 hj).1 hj (hc y hy2 u ho)
    unfold nearer at h1; omega
  have mk : ∀ (i : Nat) (u d : Bool), s.l[i]? = some x → NextP s x u 0 → u = (!d) → (d = false → h0 ≤ x.track ∧ ∀ y ∈ s.l.eraseIdx i, y.track < h0 ∨ x.track ≤ y.track) → (d = true → ∀ y ∈ s.l.eraseIdx i, y.track ≤ x.track) → ∃ s', TakeP s x 0 s' ∧ Sweep s' h0 x.track d k := fun i u d hi hn hu h1 h2 => by
    have hT : TakeP s x 0 ⟨s.l.eraseIdx i, x.track, u⟩ := ⟨u, hn, Or.inr ⟨rfl, i, hi, rfl⟩⟩
    refine ⟨_, hT, hT.ok h.ok, ?_, fun y hy => h.dead y (List.mem_of_mem_eraseIdx hy), rfl, hu, h1, h2⟩
    have := h.len
    show (s.l.eraseIdx i).length = k
    rw [List.length_eraseIdx_of_lt (List.getElem?_eq_some_iff.1 hi).1]; omega
  cases hd : down with
  | true =>
    subst hd
    have hup : s.up = false := h.way
    have hall := h.fall rfl
    rcases hn with ⟨h1, _⟩ | ⟨h1, rfl, rfl⟩ | ⟨h1, h2, rfl, rfl⟩
    · have := h.len; rw [h1] at this; simp at this
    · rw [hup] at h1
      obtain ⟨i, hi, h3, h4⟩ := key false h1
      have hx := hall x (List.mem_of_getElem? hi)
      obtain ⟨s', hT, hS⟩ := mk i s.up true hi hn0 (by rw [hup]; rfl) (fun h => by cases h) (fun _ y hy => by
        have h5 := hall y (List.mem_of_mem_eraseIdx hy)
        have hh := h.hd
        have h6 := h4 y hy (by show 0 ≤ s.head - y.track; omega)
        have h6 : s.head - x.track ≤ s.head - y.track := h6
        omega)
      exact ⟨x, s', true, hT, hS, Or.inl ⟨rfl, rfl, hx⟩⟩
    · exfalso
      rw [hup] at h1
      obtain ⟨y, hy⟩ := List.exists_mem_of_ne_nil s.l (fun e => by have := h.len; rw [e] at this; simp at this)
      obtain ⟨j, hj⟩ := List.mem_iff_getElem?.1 hy
      have hh := h.hd
      exact h1 j y (List.getElem?_eq_some_iff.1 hj).1 hj (hc y hy false (by show 0 ≤ s.head - y.track; have := hall y hy; omega))
  | false =>
    subst hd
    have hup : s.up = true := h.way
    obtain ⟨hl, hall⟩ := h.rise rfl
    have hh := h.hd
    rcases hn with ⟨h1, _⟩ | ⟨h1, rfl, rfl⟩ | ⟨h1, h2, rfl, rfl⟩
    · have := h.len; rw [h1] at this; simp at this
    · rw [hup] at h1
      obtain ⟨i, hi, h3, h4⟩ := key true h1
      have h3 : 0 ≤ x.track - s.head := h3
      obtain ⟨s', hT, hS⟩ := mk i s.up false hi hn0 (by rw [hup]; rfl) (fun _ => ⟨by omega, fun y hy => by
        rcases hall y (List.mem_of_mem_eraseIdx hy) with h5 | h5
        · exact Or.inl h5
        · right
          have h6 := h4 y hy (by show 0 ≤ y.track - s.head; omega)
          have h6 : x.track - s.head ≤ y.track - s.head := h6
          omega⟩) (fun h => by cases h)
      exact ⟨x, s', false, hT, hS, Or.inr (Or.inl ⟨rfl, rfl, by omega⟩)⟩
    · rw [hup] at h1 h2
      have hlow : ∀ y ∈ s.l, y.track < h0 := fun y hy => by
        rcases hall y hy with h5 | h5
        · exact h5
        · obtain ⟨j, hj⟩ := List.mem_iff_getElem?.1 hy
          exact absurd (hc y hy true (by show 0 ≤ y.track - s.head; omega)) (h1 j y (List.getElem?_eq_some_iff.1 hj).1 hj)
      obtain ⟨i, hi, h3, h4⟩ := key false h2
      have hx := hlow x (List.mem_of_getElem? hi)
      obtain ⟨s', hT, hS⟩ := mk i (!s.up) true hi hn0 (by rw [hup]) (fun h => by cases h) (fun _ y hy => by
        have h5 := hlow y (List.mem_of_mem_eraseIdx hy)
        have h6 := h4 y hy (by show 0 ≤ s.head - y.track; omega)
        have h6 : s.head - x.track ≤ s.head - y.track := h6
        omega)
      exact ⟨x, s', true, hT, hS, Or.inr (Or.inr ⟨rfl, rfl, by omega, hx⟩)⟩
/-- The queue of the first k tracks. -/
def trs (T : Nat → Int) (h : Int) (k : Nat) : OSt := ⟨(List.range k).map fun (i : Nat) => (⟨(i : Int), 5, T i⟩ : Wt), h, true⟩
theorem trs_add (T : Nat → Int) (h : Int) {k : Nat} (hk : k < 40) (hT : 0 ≤ T k ∧ T k ≤ 65535) : AddP (trs T h k) ⟨(k : Int), 5, T k⟩ 0 (trs T h (k + 1)) := by
  refine Or.inr (Or.inr (Or.inr ⟨⟨⟨by show (0 : Int) ≤ (k : Int); omega, by show (k : Int) ≤ 65535; omega⟩, ⟨by show (0 : Int) ≤ 5; omega, by show (5 : Int) < _; omega⟩, hT.1, by show T k ≤ 1048576; omega⟩, fun y hy => ?_, ?_, rfl, ?_⟩))
  · obtain ⟨i, hi, rfl⟩ := List.mem_map.1 hy
    simp at hi
    show (i : Int) ≠ (k : Int)
    omega
  · simp [trs]; omega
  · simp [trs, List.range_succ]
theorem trs_sweep (T : Nat → Int) (h : Int) {k : Nat} (ok : (trs T h k).ok) : Sweep (trs T h k) h h false k :=
  ⟨ok, by simp [trs], fun x hx => by
    obtain ⟨i, _, rfl⟩ := List.mem_map.1 hx
    rfl, rfl, rfl, fun _ => ⟨Int.le_refl _, fun x hx => by omega⟩, fun h => by cases h⟩
def hd1 (h : Int) : OSt := ⟨[⟨100, 0, h⟩], 0, true⟩
theorem hd_add (h : Int) (hh : 0 ≤ h ∧ h ≤ 65535) : AddP OSt.new ⟨100, 0, h⟩ 0 (hd1 h) :=
  Or.inr (Or.inr (Or.inr ⟨⟨by show (0:Int) ≤ 100 ∧ (100:Int) ≤ 65535; omega, by show (0:Int) ≤ 0 ∧ (0:Int) < _; omega, hh.1, by show h ≤ 1048576; omega⟩, fun y hy => by simp [OSt.new] at hy, by simp [OSt.new], rfl, rfl⟩))
theorem hd_take (h : Int) (hh : 0 ≤ h) : TakeP (hd1 h) ⟨100, 0, h⟩ 0 ⟨[], h, true⟩ := by
  refine take_of (s := hd1 h) (up := true) (Or.inr (Or.inl ⟨⟨⟨0, by simp [hd1], rfl⟩, ⟨by simp [hd1, firstD], by show 0 ≤ h - 0; omega⟩, fun i y hi hy _ => ?_⟩, rfl, rfl⟩)) 0 rfl
  have : i = 0 := by simp [hd1] at hi; omega
  subst this
  simp [hd1] at hy
  subst hy; exact nearer_irr _ _ _
theorem trs_zero (T : Nat → Int) (h : Int) : trs T h 0 = ⟨[], h, true⟩ := rfl
end Go.Proofs.Ytmikjbhhnndncaa
