/- Layer 19: a book whose time goes on: the words. -/
import Derived.Test.YthdhfjcgboglfaaLifeP
namespace Go.Proofs.Ythdhfjcgboglfaa
open Go.RowKit
set_option linter.unusedVariables false
set_option maxRecDepth 100000
set_option maxHeartbeats 2000000
/-- Who is open, once those of a list came out. -/
def opJ (op : Nat → Option (Int × Int)) (l : List Nat) (k : Nat) : Option (Int × Int) := match op k with
  | some x => if x.1.toNat ∈ l then none else some x
  | none => none
theorem opJ_some {op : Nat → Option (Int × Int)} {l : List Nat} {k : Nat} {x : Int × Int} (h : opJ op l k = some x) : op k = some x ∧ x.1.toNat ∉ l := by
  unfold opJ at h
  cases ho : op k with
  | none => rw [ho] at h; cases h
  | some y =>
    rw [ho] at h
    dsimp only at h
    by_cases hm : y.1.toNat ∈ l
    · rw [if_pos hm] at h; cases h
    · rw [if_neg hm] at h; injection h with h; subst h; exact ⟨rfl, hm⟩
theorem opJ_of {op : Nat → Option (Int × Int)} {l : List Nat} {k : Nat} {x : Int × Int} (h : op k = some x) (hm : x.1.toNat ∉ l) : opJ op l k = some x := by
  unfold opJ; rw [h]; exact if_neg hm
theorem opJ_nil (op : Nat → Option (Int × Int)) : opJ op [] = op := by
  funext k; unfold opJ
  cases op k with
  | none => rfl
  | some x => exact if_neg (by simp)
theorem UqO.opJ {op : Nat → Option (Int × Int)} (U : UqO op) (l : List Nat) : UqO (opJ op l) :=
  ⟨fun k x h => U.lt k x (opJ_some h).1, fun j k x y h1 h2 e => U.uq j k x y (opJ_some h1).1 (opJ_some h2).1 e⟩
theorem opJ_step {op : Nat → Option (Int × Int)} (U : UqO op) (pos : ∀ k x, op k = some x → 0 ≤ x.1) {l : List Nat} {id k : Nat} {d : Int} (h : op k = some ((id : Int), d)) : updO (opJ op l) k none = opJ op (l ++ [id]) := by
  funext j
  by_cases e : j = k
  · subst e
    rw [updO_self]
    unfold opJ; rw [h]
    exact (if_pos (by simp)).symm
  · rw [updO_ne _ _ e]
    unfold opJ
    cases hj : op j with
    | none => rfl
    | some x =>
      have hne : x.1.toNat ≠ id := fun he => e (U.uq j k x _ hj h (by have := pos j x hj; show x.1 = (id : Int); omega))
      dsimp only
      by_cases hm : x.1.toNat ∈ l
      · rw [if_pos hm, if_pos (by simp [hm])]
      · rw [if_neg hm, if_neg (by simp [hm, hne])]
/-- Those that came out by their time. -/
def fLate (l : List Nat) : List Ft := l.map fun (x : Nat) => ⟨(x : Int), 2, 1⟩
/-- A book, once the time has gone on. -/
def Bk.go (s : Bk) (u : Int) (l : List Nat) : Bk := { s with now := u, op := opJ s.op l, un := [] }
/-- Whose abort time came, in order. -/
structure LateQ (s : Bk) (u : Int) (l : List Nat) : Prop where
  nd : l.Nodup
  mem : ∀ x : Nat, x ∈ l ↔ ∃ k d, s.op k = some ((x : Int), d) ∧ d - s.cost ≤ u
  srt : ∀ (a b : Nat) x y, a < b → l[a]? = some x → l[b]? = some y → ltN s.op x y
theorem dead_of {s : Bk} (ok : s.ok) {x k : Nat} {d : Int} (h : s.op k = some ((x : Int), d)) : dN s.op x = d ∧ x % 65536 = x := by
  have hb := ok.bd k _ h
  dsimp only at hb
  have e : x % 65536 = x := by omega
  refine ⟨?_, e⟩
  unfold dN deadO
  rw [e, ok.U.slot h]
  show ((s.op k).getD (0, 0)).2 = d
  rw [h]; rfl
theorem offp_nodup {T : Int → Option Int} {u : Int} {o : List Int} (h : OffP T u o) : o.Nodup := h.sort.imp fun hab e => by subst e; unfold ltT at hab; simp at hab
theorem T_some {s : Bk} {i a : Int} (h : s.T i = some a) : ∃ k : Nat, i = (k : Int) ∧ k < 64 ∧ ∃ x, s.op k = some x ∧ a = x.2 - s.cost := by
  unfold Bk.T at h
  split at h
  · rename_i hi
    cases ho : s.op i.toNat with
    | none => rw [ho] at h; cases h
    | some x =>
      rw [ho] at h
      injection h with h
      exact ⟨i.toNat, by omega, by omega, x, ho, h.symm⟩
  · cases h
theorem T_of {s : Bk} (ok : s.ok) {k : Nat} {x : Int × Int} (h : s.op k = some x) : s.T (k : Int) = some (x.2 - s.cost) := by
  unfold Bk.T
  have := ok.U.lt k x h
  rw [if_pos (by omega), Int.toNat_natCast, h]; rfl
theorem LateP.q {s : Bk} (ok : s.ok) {u : Int} {o : List Int} {l : List Nat} (ho : OffP s.T u o) (h : LateP s.op o l) : LateQ s u l := by
  have nd0 : (o.map (idN s.op)).Nodup := by
    refine List.Pairwise.map _ ?_ (List.pairwise_iff_forall_sublist.2 fun {a b} hab => ?_) (R := fun a b => idN s.op a ≠ idN s.op b)
    · intro a b h; exact h
    · have hm : ∀ z, z ∈ [a, b] → z ∈ o := fun z hz => hab.subset hz
      have nd := offp_nodup ho
      have hne : a ≠ b := by
        have := nd.sublist hab
        simp at this; exact this
      obtain ⟨x1, h1, _⟩ := (ho.mem a).1 (hm a (by simp))
      obtain ⟨x2, h2, _⟩ := (ho.mem b).1 (hm b (by simp))
      obtain ⟨k1, rfl, _, y1, e1, _⟩ := T_some h1
      obtain ⟨k2, rfl, _, y2, e2, _⟩ := T_some h2
      intro e
      apply hne
      have b1 := ok.bd k1 y1 e1
      have b2 := ok.bd k2 y2 e2
      unfold idN wsO at e
      rw [Int.toNat_natCast, Int.toNat_natCast, e1, e2] at e
      dsimp only at e
      rw [ok.U.uq k1 k2 y1 y2 e1 e2 (by omega)]
  have nd : l.Nodup := h.1.nodup_iff.2 nd0
  have mem : ∀ x : Nat, x ∈ l ↔ ∃ k d, s.op k = some ((x : Int), d) ∧ d - s.cost ≤ u := fun x => by
    rw [h.1.mem_iff, List.mem_map]
    constructor
    · rintro ⟨t, ht, rfl⟩
      obtain ⟨a, ha, hau⟩ := (ho.mem t).1 ht
      obtain ⟨k, rfl, _, y, e1, rfl⟩ := T_some ha
      have b1 := ok.bd k y e1
      refine ⟨k, y.2, ?_, hau⟩
      unfold idN wsO
      rw [Int.toNat_natCast, e1]
      dsimp only
      rw [show ((y.1.toNat : Nat) : Int) = y.1 by omega]
    · rintro ⟨k, d, hk, hd⟩
      refine ⟨(k : Int), (ho.mem _).2 ⟨_, T_of ok hk, hd⟩, ?_⟩
      unfold idN wsO
      rw [Int.toNat_natCast, hk]
      simp
  refine ⟨nd, mem, fun a b x y hab hx hy => ?_⟩
  have hn := h.2 a b x y hab hx hy
  obtain ⟨k1, d1, e1, _⟩ := (mem x).1 (List.mem_of_getElem? hx)
  obtain ⟨k2, d2, e2, _⟩ := (mem y).1 (List.mem_of_getElem? hy)
  obtain ⟨q1, q2⟩ := dead_of ok e1
  obtain ⟨q3, q4⟩ := dead_of ok e2
  have hxy : x ≠ y := fun e => by
    subst e
    have ha : a < l.length := (List.getElem?_eq_some_iff.1 hx).1
    have hb : b < l.length := (List.getElem?_eq_some_iff.1 hy).1
    exact List.pairwise_iff_getElem.1 nd a b ha hb hab ((List.getElem?_eq_some_iff.1 hx).2.trans (List.getElem?_eq_some_iff.1 hy).2.symm)
  unfold ltN at hn ⊢
  omega
theorem LateQ.T {s : Bk} (ok : s.ok) {u : Int} {l : List Nat} (h : LateQ s u l) : Bk.T (s.go u l) = aft s.T u := by
  funext i
  unfold aft
  show (if 0 ≤ i ∧ i < 64 then (opJ s.op l i.toNat).map (fun x => x.2 - s.cost) else none) = _
  unfold Bk.T
  by_cases hi : 0 ≤ i ∧ i < 64
  · rw [if_pos hi, if_pos hi]
    cases ho : s.op i.toNat with
    | none => unfold opJ; rw [ho]; rfl
    | some x =>
      have hb := ok.bd _ x ho
      have hx : s.op i.toNat = some (((x.1.toNat : Nat) : Int), x.2) := by rw [ho]; congr 1; ext <;> simp; omega
      by_cases hu : u < x.2 - s.cost
      · rw [opJ_of ho fun hm => by
          obtain ⟨k, d, e1, e2⟩ := (h.mem _).1 hm
          have ek := ok.U.uq _ _ _ _ hx e1 rfl
          rw [← ek, hx] at e1
          injection e1 with e1
          injection e1 with _ e1
          omega]
        simp [hu]
      · unfold opJ
        rw [ho]
        dsimp only
        rw [if_pos ((h.mem _).2 ⟨_, _, hx, by omega⟩)]
        simp [hu]
  · rw [if_neg hi, if_neg hi]
theorem LateQ.ok {s : Bk} (ok : s.ok) {u : Int} (hu : 0 ≤ u) {l : List Nat} (h : LateQ s u l) : (s.go u l).ok := by
  refine ⟨ok.c0, ok.c1, hu, ok.U.opJ l, fun k x hx => ?_⟩
  obtain ⟨e1, e2⟩ := opJ_some (show opJ s.op l k = some x from hx)
  have hb := ok.bd k x e1
  refine ⟨hb.1, hb.2.1, ?_, hb.2.2.2⟩
  show u < x.2 - s.cost
  have hx2 : s.op k = some (((x.1.toNat : Nat) : Int), x.2) := by rw [e1]; congr 1; ext <;> simp; omega
  rcases Int.lt_or_le u (x.2 - s.cost) with h1 | h1
  · exact h1
  · exact absurd ((h.mem _).2 ⟨k, x.2, hx2, h1⟩) e2
/-- Who is open, once the time is u. -/
def opF (s : Bk) (u : Int) (k : Nat) : Option (Int × Int) := match s.op k with
  | some x => if x.2 - s.cost ≤ u then none else some x
  | none => none
theorem LateQ.opF {s : Bk} (ok : s.ok) {u : Int} {l : List Nat} (h : LateQ s u l) : opJ s.op l = opF s u := by
  funext k
  unfold opJ Proofs.Ythdhfjcgboglfaa.opF
  cases ho : s.op k with
  | none => rfl
  | some x =>
    have hb := ok.bd _ x ho
    have hx : s.op k = some (((x.1.toNat : Nat) : Int), x.2) := by rw [ho]; congr 1; ext <;> simp; omega
    dsimp only
    by_cases hu : x.2 - s.cost ≤ u
    · rw [if_pos hu, if_pos ((h.mem _).2 ⟨_, _, hx, hu⟩)]
    · rw [if_neg hu, if_neg fun hm => by
        obtain ⟨k2, d, e1, e2⟩ := (h.mem _).1 hm
        have ek := ok.U.uq _ _ _ _ hx e1 rfl
        rw [← ek, hx] at e1
        injection e1 with e1
        injection e1 with _ e1
        omega]
/-- A book, once the time has gone on. -/
def Bk.gon (s : Bk) (u : Int) : Bk := if goA s.now u = 0 then { s with now := u, op := Proofs.Ythdhfjcgboglfaa.opF s u, un := [] } else s
theorem LateQ.gon {s : Bk} (ok : s.ok) {u : Int} {l : List Nat} (h : LateQ s u l) (hg : goA s.now u = 0) : s.gon u = s.go u l := by
  unfold Bk.gon Bk.go
  rw [if_pos hg, h.opF ok]
end Go.Proofs.Ythdhfjcgboglfaa
