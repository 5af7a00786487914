/- Layer 8: who owns the buffers of a list. -/
import Derived.Test.YtiaojhjghededaaPieW
namespace Go.Proofs.Ytiaojhjghededaa
open Go.RowKit
set_option linter.unusedVariables false
set_option maxRecDepth 100000
set_option maxHeartbeats 1600000
/-- All buffers of a list are this one's. -/
def OwnAll (st : Nat → Buf) (ps : List Pc) (o : Int) : Prop := ∀ p ∈ ps, ∃ i : Nat, i < 6 ∧ p.s = (i : Int) ∧ (st i).owner = o ∧ (st i).gen = p.g
theorem gs4_task (i : Nat) (hi : i < 6) (h : (gs 4 i).owner ≠ 0) : (gs 4 i).owner = 1 := by
  rcases (show i = 0 ∨ i = 1 ∨ i = 2 ∨ i = 3 ∨ i = 4 ∨ i = 5 by omega) with rfl | rfl | rfl | rfl | rfl | rfl <;> revert h <;> decide
theorem own_gs4 {ps : List Pc} (hm : mayL 6 (gs 4) ps = true) : OwnAll (gs 4) ps 1 := fun p hp => by
  obtain ⟨-, -, hf, -, -⟩ := may_wf (gs_ok 4 (by omega)) hm
  obtain ⟨-, -, -, i, h1, h2, h3, h4, -⟩ := fitP_bd (gs_ok 4 (by omega)) (hf p hp)
  exact ⟨i, h1, h2, gs4_task i h1 h3, h4⟩
theorem own_of {st : Nat → Buf} {ps : List Pc} {o : Int} (h : OwnAll st ps o) (ho : o ≠ 0) : ∀ x ∈ bufsP ps, isOf 6 st o x := fun x hx => by
  obtain ⟨p, hp, rfl⟩ := (bufs_mem ps x).1 hx
  obtain ⟨i, h1, h2, h3, h4⟩ := h p hp
  exact ⟨i, h1, h2, by rw [h3]; exact ho, h4, h3⟩
theorem own_gv {st : Nat → Buf} {ps : List Pc} {o : Int} (h : OwnAll st ps o) (z : Int) : OwnAll (gvS st (bufsP ps) z) ps z := fun p hp => by
  obtain ⟨i, h1, h2, h3, h4⟩ := h p hp
  have hin : ((bufsP ps).any fun x => x.1 == (i : Int)) = true := List.any_eq_true.2 ⟨(p.s, p.g), (bufs_mem ps _).2 ⟨p, hp, rfl⟩, by simp [h2]⟩
  refine ⟨i, h1, h2, ?_, ?_⟩ <;> unfold gvS <;> rw [if_pos hin]
  exact h4
theorem own_one {st : Nat → Buf} {ps : List Pc} {o : Int} (h : OwnAll st ps o) (ho : o ≠ 0) {p : Pc} (hp : p ∈ ps) : ∃ r, OwnerP 6 st p.s p.g o r 0 := by
  obtain ⟨i, h1, h2, h3, h4⟩ := h p hp
  exact ⟨_, Or.inr ⟨i, h1, h2, by rw [h3]; exact ho, h4, h3.symm, rfl, rfl⟩⟩
theorem szB_gv (n : Nat) (st : Nat → Buf) (l : List (Int × Int)) {z : Int} (hz : z ≠ 0) (hl : ∀ x ∈ l, ∀ i : Nat, x.1 = (i : Int) → (st i).owner ≠ 0) (s g : Int) : szB n (gvS st l z) s g = szB n st s g := by
  unfold szB
  have h1 : (gvS st l z s.toNat).gen = (st s.toNat).gen := by unfold gvS; split <;> rfl
  have h2 : (gvS st l z s.toNat).bs = (st s.toNat).bs := by unfold gvS; split <;> rfl
  have h3 : (gvS st l z s.toNat).owner ≠ 0 ↔ (st s.toNat).owner ≠ 0 := by
    unfold gvS
    split
    · next h =>
      obtain ⟨x, hx, he⟩ := List.any_eq_true.1 h
      exact ⟨fun _ => hl x hx _ (by simpa using he), fun _ => hz⟩
    · exact Iff.rfl
  rw [h1, h2]
  by_cases hc : 0 ≤ s ∧ s < n ∧ (st s.toNat).owner ≠ 0 ∧ (st s.toNat).gen = g
  · rw [if_pos hc, if_pos ⟨hc.1, hc.2.1, h3.2 hc.2.2.1, hc.2.2.2⟩]
  · rw [if_neg hc, if_neg fun h => hc ⟨h.1, h.2.1, h3.1 h.2.2.1, h.2.2.2⟩]
theorem fitP_gv (n : Nat) (st : Nat → Buf) (l : List (Int × Int)) {z : Int} (hz : z ≠ 0) (hl : ∀ x ∈ l, ∀ i : Nat, x.1 = (i : Int) → (st i).owner ≠ 0) (p : Pc) : fitP n (gvS st l z) p = fitP n st p := by
  unfold fitP; rw [szB_gv n st l hz hl]
theorem mayG_gv (n : Nat) (st : Nat → Buf) (l : List (Int × Int)) {z : Int} (hz : z ≠ 0) (hl : ∀ x ∈ l, ∀ i : Nat, x.1 = (i : Int) → (st i).owner ≠ 0) : ∀ (ps pre : List Pc), mayG n (gvS st l z) pre ps = mayG n st pre ps
  | [], _ => rfl
  | c :: r, pre => by unfold mayG; rw [fitP_gv n st l hz hl, mayG_gv n st l hz hl r]
theorem mayL_gv (n : Nat) (st : Nat → Buf) (l : List (Int × Int)) {z : Int} (hz : z ≠ 0) (hl : ∀ x ∈ l, ∀ i : Nat, x.1 = (i : Int) → (st i).owner ≠ 0) (ps : List Pc) : mayL n (gvS st l z) ps = mayL n st ps := by
  unfold mayL; rw [mayG_gv n st l hz hl]
theorem own_live {st : Nat → Buf} {ps : List Pc} {o : Int} (h : OwnAll st ps o) (ho : o ≠ 0) : ∀ x ∈ bufsP ps, ∀ i : Nat, x.1 = (i : Int) → (st i).owner ≠ 0 := fun x hx i hi => by
  obtain ⟨j, h1, h2, h3, h4, h5⟩ := own_of h ho x hx
  obtain rfl : j = i := by omega
  exact h3
theorem bufs_head {ps : List Pc} (h : 1 ≤ ps.length) : ∃ x r, bufsP ps = x :: r := by
  cases ps with
  | nil => simp at h
  | cons p r =>
    have hm : (p.s, p.g) ∈ bufsP (p :: r) := (bufs_mem _ _).2 ⟨p, List.mem_cons_self, rfl⟩
    cases hb : bufsP (p :: r) with
    | nil => rw [hb] at hm; cases hm
    | cons x r => exact ⟨x, r, rfl⟩
theorem give_refused {st : Nat → Buf} {ps : List Pc} {o a z : Int} (h : OwnAll st ps o) (ho : o ≠ 0) {x : Int × Int} (hx : x ∈ bufsP ps) (hr : ¬ (a = o ∧ who a ∧ who z ∧ a ≠ z)) : ∃ c, c ≠ 0 ∧ (¬ (who a ∧ who z ∧ a ≠ z) ∧ c = 1 ∨ (who a ∧ who z ∧ a ≠ z) ∧ c = 8) ∧ Via 6 st x.1 x.2 (GiveB a z) c st := by
  obtain ⟨i, h1, h2, h3, h4, h5⟩ := own_of h ho x hx
  by_cases hp : who a ∧ who z ∧ a ≠ z
  · exact ⟨8, by omega, Or.inr ⟨hp, rfl⟩, Or.inr ⟨i, _, h1, h2, h3, h4, Or.inr (Or.inl ⟨hp, fun e => hr ⟨by omega, hp⟩, rfl, rfl⟩), (updB_id _ _).symm⟩⟩
  · exact ⟨1, by omega, Or.inl ⟨hp, rfl⟩, Or.inr ⟨i, _, h1, h2, h3, h4, Or.inl ⟨hp, rfl, rfl⟩, (updB_id _ _).symm⟩⟩
end Go.Proofs.Ytiaojhjghededaa
