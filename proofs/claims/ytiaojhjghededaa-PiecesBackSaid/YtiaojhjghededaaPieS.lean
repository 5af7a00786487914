/- Layer 8: bytes scattered: what the buffers come to. -/
import Derived.Test.YtiaojhjghededaaPieG
import Derived.Test.YtiaojhjghededaaPieE
import Derived.Test.YtiaojhjghededaaPieL
namespace Go.Proofs.Ytiaojhjghededaa
open Go.RowKit
set_option linter.unusedVariables false
set_option maxRecDepth 100000
/-- What the pieces ahead are long. -/
def totP (ps : List Pc) : Nat := (ps.map fun p => p.m.toNat).sum
theorem totP_snoc (l : List Pc) (p : Pc) : totP (l ++ [p]) = totP l + p.m.toNat := by unfold totP; simp
theorem scaP_nil : ∀ (ps : List Pc) (st : Nat → Buf), scaP ps [] st = st
  | [], _ => rfl
  | p :: ps, st => by unfold scaP; rw [if_pos rfl]
theorem scaP_snoc : ∀ (l : List Pc) (p : Pc) (b : List Int) (st : Nat → Buf), scaP (l ++ [p]) b st = if b.drop (totP l) = [] then scaP l b st else putP (scaP l b st) p ((b.drop (totP l)).take p.m.toNat)
  | [], p, b, st => by
    show scaP [p] b st = if b.drop 0 = [] then st else putP st p ((b.drop 0).take p.m.toNat)
    rw [List.drop_zero]
    unfold scaP
    by_cases hb : b = []
    · rw [if_pos hb, if_pos hb]
    · rw [if_neg hb, if_neg hb]; rfl
  | q :: l, p, b, st => by
    rw [List.cons_append]
    unfold scaP
    by_cases hb : b = []
    · rw [if_pos hb, if_pos hb, hb, List.drop_nil, if_pos rfl]
    · rw [if_neg hb, if_neg hb, scaP_snoc l p]
      have e : totP (q :: l) = q.m.toNat + totP l := by unfold totP; simp
      rw [e, List.drop_drop]
theorem scaP_stop : ∀ (l : List Pc) (r : List Pc) (b : List Int) (st : Nat → Buf), b.length ≤ totP l → scaP (l ++ r) b st = scaP l b st
  | [], r, b, st, h => by
    have hb : b = [] := List.length_eq_zero_iff.1 (by have : totP [] = 0 := rfl; omega)
    rw [hb]
    exact (scaP_nil _ _).trans (scaP_nil _ _).symm
  | q :: l, r, b, st, h => by
    rw [List.cons_append]
    unfold scaP
    by_cases hb : b = []
    · rw [if_pos hb, if_pos hb]
    · rw [if_neg hb, if_neg hb]
      have e : totP (q :: l) = q.m.toNat + totP l := by unfold totP; simp
      exact scaP_stop l r _ _ (by rw [List.length_drop]; omega)
/-- One by one, each with how many bytes are ahead. -/
def scaX (b : List Int) (ys : List (Int × Pc)) (st : Nat → Buf) : Nat → Buf := ys.foldl (fun st x => putP st x.2 ((b.drop x.1.toNat).take x.2.m.toNat)) st
theorem scaX_snoc (b : List Int) (ys : List (Int × Pc)) (x : Int × Pc) (st : Nat → Buf) : scaX b (ys ++ [x]) st = putP (scaX b ys st) x.2 ((b.drop x.1.toNat).take x.2.m.toNat) := by simp [scaX]
theorem begP_tot {ps : List Pc} (hs : ∀ p ∈ ps, p.sm) (hl : ps.length ≤ 16) : ∀ k, k ≤ ps.length → begP ps k = (totP (ps.take k) : Nat) ∧ totP (ps.take k) ≤ 65536 * k
  | 0, _ => ⟨rfl, Nat.le_refl _⟩
  | k + 1, hk => by
    obtain ⟨h1, h2⟩ := begP_tot hs hl k (by omega)
    have hp : ps[k]? = some (ps[k]'(by omega)) := List.getElem?_eq_getElem (by omega)
    obtain ⟨c, hc⟩ : ∃ c, ps[k]'(by omega) = c := ⟨_, rfl⟩
    rw [hc] at hp
    have hd : ps.getD k ⟨0, 0, 0, 0⟩ = c := by rw [List.getD_eq_getElem?_getD, hp]; rfl
    obtain ⟨⟨a1, a2⟩, a3, a4⟩ := hs c (List.mem_of_getElem? hp)
    have e1 : ps.take (k + 1) = ps.take k ++ [c] := by rw [List.take_add_one, hp]; rfl
    rw [e1, totP_snoc]
    refine ⟨?_, by omega⟩
    show wrap64 (begP ps k + if (ps.getD k ⟨0, 0, 0, 0⟩).m < 0 then 0 else (ps.getD k ⟨0, 0, 0, 0⟩).m) = _
    rw [hd, if_neg (by omega), h1, IntWalk.wrap64_in _ ⟨by omega, by omega⟩]
    omega
theorem scaX_scaP {ps : List Pc} (hs : ∀ p ∈ ps, p.sm) (hl : ps.length ≤ 16) (b : List Int) (st : Nat → Buf) : ∀ k, k ≤ ps.length → (∀ x ∈ comeP ps k, x.1 < (b.length : Int)) → scaX b (comeP ps k) st = scaP (ps.take k) b st
  | 0, _, _ => rfl
  | k + 1, hk, hx => by
    rw [comeP_succ] at hx ⊢
    have ih := scaX_scaP hs hl b st k (by omega) fun x h => hx x (List.mem_append_left _ h)
    have hb := hx _ (List.mem_append_right _ List.mem_cons_self)
    obtain ⟨h1, h2⟩ := begP_tot hs hl k (by omega)
    have hp : ps[k]? = some (ps[k]'(by omega)) := List.getElem?_eq_getElem (by omega)
    obtain ⟨c, hc⟩ : ∃ c, ps[k]'(by omega) = c := ⟨_, rfl⟩
    rw [hc] at hp
    have hd : ps.getD k ⟨0, 0, 0, 0⟩ = c := by rw [List.getD_eq_getElem?_getD, hp]; rfl
    have e1 : ps.take (k + 1) = ps.take k ++ [c] := by rw [List.take_add_one, hp]; rfl
    rw [scaX_snoc, ih, e1, scaP_snoc]
    dsimp only at hb ⊢
    rw [hd, h1, Int.toNat_natCast]
    rw [h1] at hb
    rw [if_neg (fun h => by have := congrArg List.length h; rw [List.length_drop] at this; have h3 : b.length - totP (ps.take k) = 0 := this; omega)]
theorem putP_ok {n : Nat} {st : Nat → Buf} {G : Int} (ok : POK n st G) (p : Pc) (xs : List Int) (hf : wfP st p) (hx : xs.length ≤ p.m.toNat) : POK n (putP st p xs) G := ⟨ok.n1, ok.n2, ok.g, fun i hi => by
  obtain ⟨h1, h2, h3, h4⟩ := ok.b i hi
  obtain ⟨e1, e2, e3, e4⟩ := put_len st p xs hf hx i
  exact ⟨by rw [e2]; exact h1, by rw [e3]; exact h2, by rw [e4]; exact h3, by rw [e1]; exact h4⟩⟩
theorem write_via {n : Nat} {st : Nat → Buf} {p : Pc} {by' : Int} {xs : List Int} {i : Nat} (hi : i < n) (hs : p.s = (i : Int)) (ho : (st i).owner = by') (hw : who by') (hg : (st i).gen = p.g) (h0 : 0 ≤ p.f) (hx : p.f + (xs.length : Nat) ≤ ((st i).bs.length : Nat)) : Via n st p.s p.g (WriteB by' p.f xs) 0 (putP st p xs) := by
  refine Or.inr ⟨i, _, hi, hs, by rw [ho]; have := hw.1; omega, hg, Or.inr (Or.inr (Or.inr ⟨hw, ho, ⟨h0, by omega, by omega, by omega⟩, rfl, rfl⟩)), ?_⟩
  unfold putP lay
  rw [hs, Int.toNat_natCast]
theorem scaX_same (b : List Int) : ∀ (ys : List (Int × Pc)) (st : Nat → Buf), (∀ x ∈ ys, wfP st x.2) → ∀ i, (scaX b ys st i).bs.length = (st i).bs.length ∧ (scaX b ys st i).gen = (st i).gen ∧ (scaX b ys st i).owner = (st i).owner ∧ (scaX b ys st i).refs = (st i).refs
  | [], _, _, _ => ⟨rfl, rfl, rfl, rfl⟩
  | x :: ys, st, h, i => by
    have hx := h x List.mem_cons_self
    have hl : ((b.drop x.1.toNat).take x.2.m.toNat).length ≤ x.2.m.toNat := by rw [List.length_take]; omega
    obtain ⟨a1, a2, a3, a4⟩ := put_len st x.2 _ hx hl i
    obtain ⟨b1, b2, b3, b4⟩ := scaX_same b ys (putP st x.2 ((b.drop x.1.toNat).take x.2.m.toNat)) (fun y hy => by
      have := h y (List.mem_cons_of_mem _ hy)
      unfold wfP at this ⊢
      rw [(put_len st x.2 _ hx hl _).1]; exact this) i
    exact ⟨b1.trans a1, b2.trans a2, b3.trans a3, b4.trans a4⟩
theorem scaX_ok {n : Nat} {st : Nat → Buf} {G : Int} (ok : POK n st G) (b : List Int) (ys : List (Int × Pc)) (h : ∀ x ∈ ys, wfP st x.2) : POK n (scaX b ys st) G := ⟨ok.n1, ok.n2, ok.g, fun i hi => by
  obtain ⟨h1, h2, h3, h4⟩ := ok.b i hi
  obtain ⟨e1, e2, e3, e4⟩ := scaX_same b ys st h i
  exact ⟨by rw [e2]; exact h1, by rw [e3]; exact h2, by rw [e4]; exact h3, by rw [e1]; exact h4⟩⟩
end Go.Proofs.Ytiaojhjghededaa
