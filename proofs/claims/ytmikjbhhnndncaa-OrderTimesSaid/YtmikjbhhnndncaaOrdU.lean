/- Layer 18: how often the head turns. Plain theorems. -/
import Derived.Test.YtmikjbhhnndncaaOrdB
import Derived.Test.YtmikjbhhnndncaaOrdT
namespace Go.Proofs.Ytmikjbhhnndncaa
open Go.RowKit
set_option linter.unusedVariables false
theorem off_shift (u : Bool) (h x y : Int) : off u x y = off u h y - off u h x := by cases u <;> simp [off] <;> omega
/-- Those of one time that are left lie on the way, once it turned. -/
structure Turn (s : OSt) (last : Int) (t : Nat) : Prop where
  ok : s.ok
  late : ∀ y ∈ s.l, last ≤ y.dead
  le : t ≤ 1
  on : t = 1 → ∀ y ∈ s.l, y.dead = last → 0 ≤ off s.up s.head y.track
theorem Turn.begin {s : OSt} (hs : s.ok) : Turn s 0 0 := ⟨hs, fun y hy => (hs.may y hy).2.1.1, by omega, fun h => by omega⟩
theorem Turn.step {s : OSt} {last : Int} {t : Nat} (h : Turn s last t) (hne : s.l ≠ []) : ∃ (x : Wt) (s' : OSt), TakeP s x 0 s' ∧ last ≤ x.dead ∧ s'.l.length + 1 = s.l.length ∧
    ((s'.up = s.up ∧ x.dead = last ∧ Turn s' x.dead t) ∨ (s'.up = s.up ∧ x.dead ≠ last ∧ Turn s' x.dead 0) ∨ (s'.up = (!s.up) ∧ x.dead = last ∧ t = 0 ∧ Turn s' x.dead 1) ∨ (s'.up = (!s.up) ∧ x.dead ≠ last ∧ Turn s' x.dead 1)) := by
  obtain ⟨x, up, f, hn⟩ := nextP_ex h.ok
  have hn0 := hn
  have mk : ∀ (i : Nat), s.l[i]? = some x → NextP s x up 0 → x.dead = firstD s.l → TakeP s x 0 ⟨s.l.eraseIdx i, x.track, up⟩ ∧ last ≤ x.dead ∧ (s.l.eraseIdx i).length + 1 = s.l.length ∧ ∀ tt, tt ≤ 1 → (tt = 1 → ∀ y ∈ s.l.eraseIdx i, y.dead = x.dead → 0 ≤ off up x.track y.track) → Turn ⟨s.l.eraseIdx i, x.track, up⟩ x.dead tt := fun i hi hn hd => by
    have hT : TakeP s x 0 ⟨s.l.eraseIdx i, x.track, up⟩ := take_of hn i hi
    have hil := (List.getElem?_eq_some_iff.1 hi).1
    refine ⟨hT, h.late x (List.mem_of_getElem? hi), by rw [List.length_eraseIdx_of_lt hil]; omega, fun tt h1 h2 => ⟨hT.ok h.ok, fun y hy => ?_, h1, h2⟩⟩
    rw [hd]; exact firstD_le (List.mem_of_mem_eraseIdx hy)
  have beyond : ∀ (u : Bool), NearP s u s.l.length (some x) → ∀ y ∈ s.l, y.dead = x.dead → 0 ≤ off u s.head y.track → 0 ≤ off u x.track y.track := fun u hu y hy hd ho => by
    obtain ⟨_, hc, hle⟩ := hu
    obtain ⟨j, hj⟩ := List.mem_iff_getElem?.1 hy
    have h1 := hle j y (List.getElem?_eq_some_iff.1 hj).1 hj ⟨hd.trans hc.1, ho⟩
    rw [off_shift u s.head]
    unfold nearer at h1; omega
  rcases hn with ⟨h1, _⟩ | ⟨h1, rfl, rfl⟩ | ⟨h1, h2, rfl, rfl⟩
  · exact absurd h1 hne
  · have hb := beyond _ h1
    obtain ⟨⟨i, _, hi⟩, hc, _⟩ := h1
    obtain ⟨hT, hl, hlen, hmk⟩ := mk i hi hn0 hc.1
    refine ⟨x, _, hT, hl, hlen, ?_⟩
    by_cases e : x.dead = last
    · exact Or.inl ⟨rfl, e, hmk t h.le fun ht y hy hd => hb y (List.mem_of_mem_eraseIdx hy) hd (h.on ht y (List.mem_of_mem_eraseIdx hy) (hd.trans e))⟩
    · exact Or.inr (Or.inl ⟨rfl, e, hmk 0 (by omega) fun ht => by omega⟩)
  · have hb := beyond _ h2
    obtain ⟨⟨i, hil, hi⟩, hc, _⟩ := h2
    obtain ⟨hT, hl, hlen, hmk⟩ := mk i hi hn0 hc.1
    have hcls : ∀ y ∈ s.l, y.dead = x.dead → 0 ≤ off (!s.up) s.head y.track := fun y hy hd => by
      obtain ⟨j, hj⟩ := List.mem_iff_getElem?.1 hy
      have h3 := h1 j y (List.getElem?_eq_some_iff.1 hj).1 hj
      rw [off_neg]
      by_cases e : 0 ≤ off s.up s.head y.track
      · exact absurd ⟨hd.trans hc.1, e⟩ h3
      · omega
    have hT1 := hmk 1 (by omega) fun _ y hy hd => hb y (List.mem_of_mem_eraseIdx hy) hd (hcls y (List.mem_of_mem_eraseIdx hy) hd)
    refine ⟨x, _, hT, hl, hlen, ?_⟩
    by_cases e : x.dead = last
    · refine Or.inr (Or.inr (Or.inl ⟨rfl, e, ?_, hT1⟩))
      by_cases ht : t = 1
      · exact absurd ⟨hc.1, h.on ht x (List.mem_of_getElem? hi) e⟩ (h1 i x hil hi)
      · have := h.le; omega
    · exact Or.inr (Or.inr (Or.inr ⟨rfl, e, hT1⟩))
theorem AddP.count {s s' : OSt} {x : Wt} {f : Int} (h : AddP s x f s') : (f = 0 ∧ s'.l.length = s.l.length + 1) ∨ (f ≠ 0 ∧ s' = s) := by
  rcases h with ⟨_, h, rfl⟩ | ⟨_, _, h, rfl⟩ | ⟨_, _, _, h, rfl⟩ | ⟨_, _, _, h, rfl⟩
  · exact Or.inr ⟨by omega, rfl⟩
  · exact Or.inr ⟨by omega, rfl⟩
  · exact Or.inr ⟨by omega, rfl⟩
  · exact Or.inl ⟨h, by simp⟩
end Go.Proofs.Ytmikjbhhnndncaa
