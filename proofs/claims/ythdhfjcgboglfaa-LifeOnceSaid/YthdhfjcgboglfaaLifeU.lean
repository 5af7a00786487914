/- Layer 19: Go after Go; a book of the first requests. -/
import Derived.Test.YthdhfjcgboglfaaLifeT
namespace Go.Proofs.Ythdhfjcgboglfaa
open Go.RowKit
set_option linter.unusedVariables false
set_option maxRecDepth 100000
set_option maxHeartbeats 2000000
theorem LateQ.pw {s : Bk} {u : Int} {l : List Nat} (h : LateQ s u l) : l.Pairwise (ltN s.op) :=
  List.pairwise_iff_getElem.2 fun i j hi hj hij => h.srt i j _ _ hij (List.getElem?_eq_getElem hi) (List.getElem?_eq_getElem hj)
theorem LateQ.of_pw {s : Bk} {u : Int} {l : List Nat} (nd : l.Nodup) (mem : ∀ x : Nat, x ∈ l ↔ ∃ k d, s.op k = some ((x : Int), d) ∧ d - s.cost ≤ u) (pw : l.Pairwise (ltN s.op)) : LateQ s u l :=
  ⟨nd, mem, fun a b x y hab hx hy => by
    obtain ⟨ha, rfl⟩ := List.getElem?_eq_some_iff.1 hx
    obtain ⟨hb, rfl⟩ := List.getElem?_eq_some_iff.1 hy
    exact List.pairwise_iff_getElem.1 pw a b ha hb hab⟩
theorem opF_some {s : Bk} {u : Int} {k : Nat} {x : Int × Int} : opF s u k = some x ↔ s.op k = some x ∧ u < x.2 - s.cost := by
  unfold opF
  cases ho : s.op k with
  | none => constructor
            · intro h; cases h
            · rintro ⟨h, _⟩; cases h
  | some y =>
    dsimp only
    by_cases h : y.2 - s.cost ≤ u
    · rw [if_pos h]
      constructor
      · intro h; cases h
      · rintro ⟨e, h2⟩; injection e with e; subst e; omega
    · rw [if_neg h]
      constructor
      · intro e; injection e with e; subst e; exact ⟨rfl, by omega⟩
      · rintro ⟨e, _⟩; exact e
theorem Bk.ok.gon {s : Bk} (ok : s.ok) {u : Int} (hu : 0 ≤ u) : (s.gon u).ok := by
  unfold Bk.gon
  split
  · refine ⟨ok.c0, ok.c1, hu, ⟨fun k x h => ok.U.lt k x (opF_some.1 h).1, fun j k x y h1 h2 e => ok.U.uq j k x y (opF_some.1 h1).1 (opF_some.1 h2).1 e⟩, fun k x h => ?_⟩
    obtain ⟨h1, h2⟩ := opF_some.1 (show opF s u k = some x from h)
    have := ok.bd k x h1
    exact ⟨this.1, this.2.1, h2, this.2.2.2⟩
  · exact ok
/-- Go after Go tells what one Go tells. -/
theorem LateQ.app {s : Bk} (ok : s.ok) {u1 u : Int} {l1 l2 : List Nat} (h0 : 0 ≤ u1) (hg : goA s.now u1 = 0) (hu : u1 ≤ u) (h1 : LateQ s u1 l1) (h2 : LateQ (s.gon u1) u l2) : LateQ s u (l1 ++ l2) := by
  have ok2 := ok.gon (u := u1) h0
  have e1 : (s.gon u1).op = Proofs.Ythdhfjcgboglfaa.opF s u1 := by unfold Bk.gon; rw [if_pos hg]
  have e2 : (s.gon u1).cost = s.cost := by unfold Bk.gon; rw [if_pos hg]
  have m2 : ∀ x : Nat, x ∈ l2 ↔ ∃ k d, s.op k = some ((x : Int), d) ∧ u1 < d - s.cost ∧ d - s.cost ≤ u := fun x => by
    rw [h2.mem, e1, e2]
    constructor
    · rintro ⟨k, d, hk, hd⟩
      obtain ⟨a, b⟩ := opF_some.1 hk
      exact ⟨k, d, a, b, hd⟩
    · rintro ⟨k, d, a, b, hd⟩
      exact ⟨k, d, opF_some.2 ⟨a, b⟩, hd⟩
  have dd : ∀ x ∈ l2, dN (s.gon u1).op x = dN s.op x := fun x hx => by
    obtain ⟨k, d, a, b, _⟩ := (m2 x).1 hx
    rw [(dead_of ok a).1, (dead_of ok2 (k := k) (d := d) (by rw [e1]; exact opF_some.2 ⟨a, b⟩)).1]
  refine LateQ.of_pw ?_ (fun x => ?_) ?_
  · rw [List.nodup_append]
    refine ⟨h1.nd, h2.nd, fun x hx y hy e => ?_⟩
    subst e
    obtain ⟨k, d, a, b⟩ := (h1.mem x).1 hx
    obtain ⟨k', d', a', b', _⟩ := (m2 x).1 hy
    obtain rfl := ok.U.uq k k' _ _ a a' rfl
    rw [a] at a'
    injection a' with a'
    injection a' with _ a'
    omega
  · rw [List.mem_append, h1.mem, m2]
    constructor
    · rintro (⟨k, d, a, b⟩ | ⟨k, d, a, _, b⟩)
      · exact ⟨k, d, a, by omega⟩
      · exact ⟨k, d, a, b⟩
    · rintro ⟨k, d, a, b⟩
      rcases Int.lt_or_le u1 (d - s.cost) with h | h
      · exact Or.inr ⟨k, d, a, h, b⟩
      · exact Or.inl ⟨k, d, a, h⟩
  · rw [List.pairwise_append]
    refine ⟨h1.pw, ?_, fun x hx y hy => ?_⟩
    · refine h2.pw.imp_of_mem fun {a b} ha hb h => ?_
      unfold ltN at h ⊢
      rw [dd a ha, dd b hb] at h
      exact h
    · obtain ⟨k, d, a, b⟩ := (h1.mem x).1 hx
      obtain ⟨k', d', a', b', _⟩ := (m2 y).1 hy
      refine Or.inl ?_
      rw [(dead_of ok a).1, (dead_of ok a').1]
      omega
/-- Who is open, once the first were opened. -/
def opN (D : Nat → Int) (i : Nat) (k : Nat) : Option (Int × Int) := if k < i then some ((k : Int), D k) else none
section
variable {D : Nat → Int} {i : Nat} {C : Int}
theorem opN_some {k : Nat} {x : Int × Int} (h : opN D i k = some x) : k < i ∧ x = ((k : Int), D k) := by
  unfold opN at h
  by_cases e : k < i
  · rw [if_pos e] at h; injection h with h; exact ⟨e, h.symm⟩
  · rw [if_neg e] at h; cases h
theorem opN_succ : opN D (i + 1) = updO (opN D i) i (some ((i : Int), D i)) := by
  funext k
  by_cases e : k = i
  · subst e; rw [updO_self]; exact if_pos (by omega)
  · rw [updO_ne _ _ e]; unfold opN
    by_cases h : k < i
    · rw [if_pos h, if_pos (by omega)]
    · rw [if_neg h, if_neg (by omega)]
theorem opN_0 : opN D 0 = fun _ => none := by funext k; exact if_neg (by omega)
theorem freeO_N (hi : i < 64) : freeO (opN D i) = i := by
  unfold freeO
  rw [find_first hi (by unfold opN; rw [if_neg (by omega)]; rfl) fun j hj => by unfold opN; rw [if_pos hj]; rfl]
  rfl
theorem cntO_N : ∀ {i : Nat}, i ≤ 64 → cntO (opN D i) = i
  | 0, _ => by rw [opN_0]; exact cf_none 64
  | i + 1, h => by rw [opN_succ, cntO_put (by omega) (by unfold opN; exact if_neg (by omega)), cntO_N (by omega)]
theorem slotO_N : slotO (opN D i) (i : Int) = none := by
  cases hs : slotO (opN D i) (i : Int) with
  | none => rfl
  | some j =>
    obtain ⟨_, d, h⟩ := slot_some hs
    obtain ⟨h1, h2⟩ := opN_some h
    injection h2 with h2 _
    omega
theorem uqN (hi : i ≤ 64) : UqO (opN D i) :=
  ⟨fun k x h => by have := (opN_some h).1; omega, fun j k x y h1 h2 e => by
    rw [(opN_some h1).2, (opN_some h2).2] at e
    have e : (j : Int) = (k : Int) := e
    omega⟩
theorem okN {N : Int} (c0 : 1 ≤ C) (c1 : C ≤ 1000) (n0 : 0 ≤ N) (hi : i ≤ 64) (h : ∀ k, k < i → N + C < D k ∧ D k < 4611686018427387904) : (⟨C, N, opN D i, []⟩ : Bk).ok :=
  ⟨c0, c1, n0, uqN hi, fun k x hx => by
    obtain ⟨h1, rfl⟩ := opN_some hx
    have := h k h1
    exact ⟨by show (0 : Int) ≤ (k : Int); omega, by show (k : Int) ≤ 65535; omega, by show N < D k - C; omega, this.2⟩⟩
theorem opnA_N {N : Int} (hi : i < 64) (h : N + C < D i) (h1 : D i < 4611686018427387904) : opnA ⟨C, N, opN D i, []⟩ (i : Int) (D i) = 0 := by
  unfold opnA
  rw [if_neg (by omega), if_neg (by omega), show slotO (⟨C, N, opN D i, []⟩ : Bk).op (i : Int) = none from slotO_N, if_neg (by decide), show cntO (⟨C, N, opN D i, []⟩ : Bk).op = i from cntO_N (by omega), if_neg (by omega), if_neg (by show ¬ (D i ≤ N + C); omega)]
theorem opn_N {N : Int} (hi : i < 64) (h : N + C < D i) (h1 : D i < 4611686018427387904) : (⟨C, N, opN D i, []⟩ : Bk).opn (i : Int) (D i) = ⟨C, N, opN D (i + 1), []⟩ := by
  unfold Bk.opn
  rw [if_pos (opnA_N hi h h1)]
  show (⟨C, N, updO (opN D i) (freeO (opN D i)) (some ((i : Int), D i)), []⟩ : Bk) = _
  rw [freeO_N hi, ← opN_succ]
/-- Once all times have come, all are late. -/
theorem late_len {s : Bk} {u : Int} {l : List Nat} (h : LateQ s u l) (hs : s.op = opN D i) (hu : ∀ k, k < i → D k - s.cost ≤ u) : l.length = i := by
  have hp : l.Perm (List.range i) := (List.perm_ext_iff_of_nodup h.nd List.nodup_range).2 fun x => by
    rw [h.mem, hs, List.mem_range]
    constructor
    · rintro ⟨k, d, hk, _⟩
      obtain ⟨h1, h2⟩ := opN_some hk
      injection h2 with h2 _
      omega
    · intro hx
      exact ⟨x, D x, if_pos hx, hu x hx⟩
  rw [hp.length_eq, List.length_range]
end
end Go.Proofs.Ythdhfjcgboglfaa
