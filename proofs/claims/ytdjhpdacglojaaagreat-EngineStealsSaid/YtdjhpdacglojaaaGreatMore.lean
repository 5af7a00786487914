/- Words for a call that turns one thing and leaves more. Plain theorems; nothing of one law. -/
import Derived.Test.YtdjhpdacglojaaaGreatFam
import Derived.Test.YtdjhpdacglojaaaGreatLis
namespace Go.Proofs.YtdjhpdacglojaaaGreat
open Go.RowKit
set_option linter.unusedVariables false
/-- One of them is things side by side: its first in its place, the others behind all. -/
theorem Star.burst {L : List Res} {w : World} {S : Nat → Prop} {i : Nat} {A : Res} {N : List Res} (h : Star L w S) (hi : L[i]? = some (Star (A :: N))) : Star (L.set i A ++ N) w S := by
  obtain ⟨F, f1, f2, f3, f4⟩ := h
  have hil : i < L.length := (List.getElem?_eq_some_iff.1 hi).1
  obtain ⟨G, g1, g2, g3, g4⟩ := (f1 i _ hi).2
  have hG : ∀ k b, G k b → F i b := fun k b hb => (g4 b).2 ⟨k, hb⟩
  refine ⟨fun k b => if k < L.length then (if k = i then G 0 b else F k b) else G (k - L.length + 1) b, fun k R hR => ?_, fun k k' b h1 h2 => ?_, fun k b hb => ?_, fun b => ⟨fun hb => ?_, fun ⟨k, hk⟩ => ?_⟩⟩
  · by_cases hk : k < L.length
    · rw [List.getElem?_append_left (by simpa using hk)] at hR
      by_cases e : k = i
      · subst e
        rw [List.getElem?_set_self hil] at hR
        injection hR with hR
        subst hR
        simpa [hk] using g1 0 A rfl
      · rw [List.getElem?_set_ne (Ne.symm e)] at hR
        simpa [hk, e] using f1 k R hR
    · rw [List.getElem?_append_right (by simp; omega)] at hR
      simp only [List.length_set] at hR
      simpa [hk] using g1 (k - L.length + 1) R (by simpa using hR)
  · dsimp only at h1 h2
    by_cases a1 : k < L.length <;> by_cases a2 : k' < L.length
    · rw [if_pos a1] at h1; rw [if_pos a2] at h2
      by_cases e1 : k = i <;> by_cases e2 : k' = i
      · rw [e1, e2]
      · rw [if_pos e1] at h1; rw [if_neg e2] at h2; exact absurd (f2 k' i b h2 (hG _ _ h1)) e2
      · rw [if_neg e1] at h1; rw [if_pos e2] at h2; exact absurd (f2 k i b h1 (hG _ _ h2)) e1
      · rw [if_neg e1] at h1; rw [if_neg e2] at h2; exact f2 k k' b h1 h2
    · rw [if_pos a1] at h1; rw [if_neg a2] at h2
      by_cases e1 : k = i
      · rw [if_pos e1] at h1; have := g2 _ _ b h1 h2; omega
      · rw [if_neg e1] at h1; exact absurd (f2 k i b h1 (hG _ _ h2)) e1
    · rw [if_neg a1] at h1; rw [if_pos a2] at h2
      by_cases e2 : k' = i
      · rw [if_pos e2] at h2; have := g2 _ _ b h1 h2; omega
      · rw [if_neg e2] at h2; exact absurd (f2 k' i b h2 (hG _ _ h1)) e2
    · rw [if_neg a1] at h1; rw [if_neg a2] at h2
      have := g2 _ _ b h1 h2; omega
  · dsimp only at hb
    by_cases a1 : k < L.length
    · simp; omega
    · rw [if_neg a1] at hb
      have := g3 _ b hb
      simp at this ⊢; omega
  · obtain ⟨k, hk⟩ := (f4 b).1 hb
    have hkl := f3 k b hk
    by_cases e : k = i
    · subst e
      obtain ⟨m, hm⟩ := (g4 b).1 hk
      cases m with
      | zero => exact ⟨k, by simpa [hkl] using hm⟩
      | succ m => exact ⟨L.length + m, by simpa [show ¬ L.length + m < L.length by omega, show L.length + m - L.length = m by omega] using hm⟩
    · exact ⟨k, by simpa [hkl, e] using hk⟩
  · dsimp only at hk
    by_cases a1 : k < L.length
    · rw [if_pos a1] at hk
      by_cases e : k = i
      · rw [if_pos e] at hk; exact (f4 b).2 ⟨i, hG _ _ hk⟩
      · rw [if_neg e] at hk; exact (f4 b).2 ⟨k, hk⟩
    · rw [if_neg a1] at hk; exact (f4 b).2 ⟨i, hG _ _ hk⟩
theorem St.burst {w0 w : World} {S0 : Nat → Prop} {L : List Res} {i : Nat} {A : Res} {N : List Res} (h : St w0 S0 w L) (hi : L[i]? = some (Star (A :: N))) : St w0 S0 w (L.set i A ++ N) := by
  obtain ⟨S, hs, hd⟩ := h; exact ⟨S, hs.burst hi, hd⟩
/-- A call that turns one thing, and leaves more. -/
theorem St.call_more {P : Program} {f : FuncId} {args : Array Value} {α : Type} {R R' : Res} {N : α → List Res} {Post : α → Ending → Prop} (c : ∀ w S, R w S → Calls P f args w fun e w' => ∃ x, Post x e ∧ ∃ S', Star (R' :: N x) w' S' ∧ Did S S' w w')
    {w0 w : World} {S0 : Nat → Prop} {L : List Res} (h : St w0 S0 w L) (i : Nat) (hi : L[i]? = some R) : Calls P f args w fun e w' => ∃ x, Post x e ∧ St w0 S0 w' (L.set i R' ++ N x) := by
  obtain ⟨S, hs, hd⟩ := h
  have hl := (Star.ok L).lt hs
  have hil : i < L.length := (List.getElem?_eq_some_iff.1 hi).1
  obtain ⟨T, hT, hok, hTS, hput⟩ := hs.split hi
  refine (c w T hT).mono ?_
  rintro e w' ⟨x, hP, T', hT', hdid⟩
  have hst : St w0 S0 w' (L.set i (Star (R' :: N x))) := by
    refine ⟨_, hput w' (Star (R' :: N x)) T' (Star.ok _) hT' (fun b hb hn => hdid.block b (hl b hb) hn) (fun b hb => (hdid.own b hb).imp id fun h => fun h2 => by have := hl b h2; omega), ?_⟩
    exact ⟨hdid.os.trans hd.os, hdid.tape.trans hd.tape, hdid.output.trans hd.output, Nat.le_trans hd.size hdid.size,
      fun k hk hn => (hdid.block k (Nat.lt_of_lt_of_le hk hd.size) fun hkT => by rcases hd.own k (hTS k hkT) with h | h; exact hn h; omega).trans (hd.block k hk hn),
      fun b hb => by
        rcases hb with ⟨h1, _⟩ | h1
        · exact hd.own b h1
        · rcases hdid.own b h1 with h2 | h2
          · exact hd.own b (hTS b h2)
          · exact Or.inr (Nat.le_trans hd.size h2)⟩
  have h2 := hst.burst (List.getElem?_set_self hil)
  rw [List.set_set] at h2
  exact ⟨x, hP, h2⟩
/-- The list's cells were laid anew, its block alone was turned. -/
theorem St.lis_only {w0 w w' : World} {S0 : Nat → Prop} {L : List Res} {e : TypeId} {size n cap g off : Nat} {xs xs' : List Value} (h : St w0 S0 w L) (i : Nat) (hi : L[i]? = some (LisR e size (.slice (some ⟨g, off, none⟩) n cap) n xs)) (hl : Lis w' e size (.slice (some ⟨g, off, none⟩) n cap) n xs') (ho : Only g w w') : St w0 S0 w' (L.set i (LisR e size (.slice (some ⟨g, off, none⟩) n cap) n xs')) :=
  h.turn hi (LisR.ok _ _ _ _ _) fun T ⟨hb, hT⟩ => ⟨T, ⟨hl, hT⟩, Did.of_only ho ((hT g).2 rfl) fun b h => Or.inl h⟩
/-- What was made since w, beside what there was. -/
theorem St.join {w0 w w' : World} {S0 : Nat → Prop} {L N : List Res} (H : St w0 S0 w L) (K : St w None w' N) : St w0 S0 w' (L ++ N) := by
  obtain ⟨S', hs, hd⟩ := K
  exact H.more hd.to_below hs fun b hb => (hd.own b hb).resolve_left id
end Go.Proofs.YtdjhpdacglojaaaGreat
