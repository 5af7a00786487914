/- Layer 15: queues into which numbers come in their order; what stands where. -/
import Derived.Test.YtdemhhmceiaohaaReadyA
namespace Go.Proofs.Ytdemhhmceiaohaa
open Go.RowKit
set_option linter.unusedVariables false
def lexP (x y : Nat × Nat) : Prop := x.2 < y.2 ∨ (x.2 = y.2 ∧ x.1 < y.1)
theorem flat_lex {f : Nat → List Nat} (h : ∀ q, (f q).Pairwise (· < ·)) : ∀ k, (flat f k).Pairwise lexP
  | 0 => List.Pairwise.nil
  | k + 1 => by
    simp only [flat]
    refine List.pairwise_append.2 ⟨flat_lex h k, List.pairwise_map.2 ((h k).imp fun hab => Or.inr ⟨rfl, hab⟩), fun x hx y hy => ?_⟩
    obtain ⟨i, _, rfl⟩ := List.mem_map.1 hy
    exact Or.inl (flat_mem.1 hx).1
theorem flat_nd {f : Nat → List Nat} (hd : ∀ p r i, i ∈ f p → i ∈ f r → p = r) (hn : ∀ q, (f q).Nodup) : ∀ k, ((flat f k).map Prod.fst).Nodup
  | 0 => List.nodup_nil
  | k + 1 => by
    simp only [flat, List.map_append, List.map_map]
    have e : (f k).map (Prod.fst ∘ fun i => (i, k)) = f k := by
      have : (Prod.fst ∘ fun (i : Nat) => (i, k)) = id := by funext i; rfl
      rw [this, List.map_id]
    rw [e]
    refine List.nodup_append.2 ⟨flat_nd hd hn k, hn k, fun a ha b hb hab => ?_⟩
    subst hab
    obtain ⟨x, hx, rfl⟩ := List.mem_map.1 ha
    have := flat_mem.1 hx
    have h2 := hd _ _ _ this.2 hb
    omega
theorem QS.ok.ids_nd {m : Nat} {s : QS} (h : s.ok m) : s.ids.Nodup := flat_nd (fun p r i hp hr => by have h1 := (h.mem p i).1 hp; have h2 := (h.mem r i).1 hr; rw [h1] at h2; injection h2) h.nd 101
theorem QS.ok.mem_ids {m : Nat} {s : QS} (h : s.ok m) {j : Nat} : j ∈ s.ids ↔ (s.pr j).isSome = true := by
  unfold QS.ids
  rw [List.mem_map]
  constructor
  · rintro ⟨x, hx, rfl⟩
    rw [h.all_mem.1 hx]; rfl
  · intro hj
    obtain ⟨p, hp⟩ := Option.isSome_iff_exists.1 hj
    exact ⟨(j, p), h.all_mem.2 hp, rfl⟩
theorem QS.ok.ids_lt {m : Nat} {s : QS} (h : s.ok m) {j : Nat} (hj : j ∈ s.ids) : j < 64 := by
  obtain ⟨p, hp⟩ := Option.isSome_iff_exists.1 (h.mem_ids.1 hj)
  exact (h.bd _ _ hp).1
theorem ids_len (s : QS) : s.ids.length = s.all.length := by simp [QS.ids]
theorem go_ids (s : QS) (id : Nat) : (s.go id).ids = s.ids.filter fun j => decide (j ≠ id) := by
  unfold QS.ids
  rw [go_all, List.filter_map]
  rfl
theorem filter_no {l : List Nat} {id : Nat} (h : id ∉ l) : (l.filter fun j => decide (j ≠ id)) = l := by
  refine List.filter_eq_self.2 fun a ha => ?_
  rw [decide_eq_true]
  exact fun e => h (e ▸ ha)
theorem filter_one {l : List Nat} {id : Nat} (hn : l.Nodup) (h : id ∈ l) : (l.filter fun j => decide (j ≠ id)).length + 1 = l.length := by
  induction l with
  | nil => cases h
  | cons a t ih =>
    rw [List.nodup_cons] at hn
    by_cases e : a = id
    · subst e
      rw [List.filter_cons, if_neg (by simp), filter_no hn.1]; rfl
    · rw [List.filter_cons, if_pos (by simp [e])]
      have := ih hn.2 (by rcases List.mem_cons.1 h with h | h; exact absurd h.symm e; exact h)
      simp only [List.length_cons]; omega
theorem go_len {m : Nat} {s : QS} (h : s.ok m) {id : Nat} (hi : (s.pr id).isSome = true) : (s.go id).all.length + 1 = s.all.length := by
  rw [← ids_len, ← ids_len, go_ids]
  exact filter_one h.ids_nd (h.mem_ids.2 hi)
theorem come_len (s : QS) {id p : Nat} (hp : p < 101) : (s.come id p).all.length = s.all.length + 1 := by
  rw [come_all s id p hp, all_split s p hp]
  simp only [List.length_append, List.length_cons, List.length_nil]; omega
/-- Those that have come so far: each number, in its order, with its urgency. -/
def comes (P : Nat → Nat) : Nat → QS
  | 0 => QS.new
  | k + 1 => (comes P k).come k (P k)
structure Came (P : Nat → Nat) (k : Nat) (s : QS) : Prop where
  ok : s.ok k
  pr : ∀ j, s.pr j = if j < k then some (P j) else none
  srt : ∀ q, (s.lst q).Pairwise (· < ·)
  len : s.all.length = k
theorem comes_came {P : Nat → Nat} (hP : ∀ j, P j < 101) : ∀ {k : Nat}, k ≤ 64 → Came P k (comes P k)
  | 0, _ => ⟨QS.new_ok, fun j => by rw [if_neg (by omega)]; rfl, fun q => List.Pairwise.nil, by have := QS.new_ok.len; show QS.new.all.length = 0; omega⟩
  | k + 1, hk => by
    have c := comes_came hP (show k ≤ 64 by omega)
    refine ⟨c.ok.come (by omega) (hP k) (by rw [c.pr, if_neg (by omega)]) (by omega), fun j => ?_, fun q => ?_, ?_⟩
    · show (if j = k then some (P k) else (comes P k).pr j) = _
      by_cases e : j = k
      · rw [if_pos e, if_pos (by omega), e]
      · rw [if_neg e, c.pr]
        by_cases h : j < k
        · rw [if_pos h, if_pos (by omega)]
        · rw [if_neg h, if_neg (by omega)]
    · show (if q = P k then (comes P k).lst q ++ [k] else (comes P k).lst q).Pairwise (· < ·)
      by_cases e : q = P k
      · rw [if_pos e]
        refine List.pairwise_append.2 ⟨c.srt q, by simp, fun a ha b hb => ?_⟩
        simp only [List.mem_singleton] at hb
        subst hb
        have h1 := (c.ok.mem q a).1 ha
        rw [c.pr] at h1
        by_cases h : a < b
        · exact h
        · rw [if_neg h] at h1; cases h1
      · rw [if_neg e]; exact c.srt q
    · show ((comes P k).come k (P k)).all.length = k + 1
      rw [come_len _ (hP k), c.len]
theorem comes_comeP {P : Nat → Nat} (hP : ∀ j, P j < 101) {k : Nat} (hk : k < 64) : ComeP (comes P k) (k : Int) (P k : Int) 0 (comes P (k + 1)) := by
  have c := comes_came hP (show k ≤ 64 by omega)
  have h2 := hP k
  refine Or.inr (Or.inr ⟨⟨⟨by omega, by omega⟩, by omega, by omega⟩, ?_, rfl, rfl⟩)
  show (comes P k).pr k = none
  rw [c.pr, if_neg (by omega)]
/-! ### Taken one by one -/
/-- What is left of n numbers when k have been taken; each that was taken last is ahead of all. -/
structure Left (P : Nat → Nat) (n k : Nat) (last : Int) (s : QS) : Prop where
  ok : s.ok n
  pr : ∀ j p, s.pr j = some p → j < n ∧ p = P j
  srt : ∀ q, (s.lst q).Pairwise (· < ·)
  len : s.all.length + k = n
  last : last = -1 ∨ ∃ l : Nat, last = (l : Int) ∧ l < n ∧ ∀ x ∈ s.all, lexP (l, P l) x
theorem Came.left {P : Nat → Nat} {n : Nat} {s : QS} (h : Came P n s) : Left P n 0 (-1) s :=
  ⟨h.ok, (fun j p hp => by
    rw [h.pr] at hp
    by_cases e : j < n
    · rw [if_pos e] at hp; injection hp with hp; exact ⟨e, hp.symm⟩
    · rw [if_neg e] at hp; cases hp), h.srt, (by have := h.len; omega), Or.inl rfl⟩
theorem Left.step {P : Nat → Nat} {n k : Nat} {last : Int} {s : QS} (h : Left P n k last s) (hk : k < n) :
    ∃ a, a < n ∧ FirstP s (a : Nat) (P a : Nat) 0 ∧ GoP s (a : Nat) 0 (s.go a) ∧ Left P n (k + 1) (a : Nat) (s.go a) ∧
      (last = -1 ∨ ∃ l : Nat, last = (l : Int) ∧ l < n ∧ lexP (l, P l) (a, P a)) := by
  have hl := h.len
  cases ha : s.all with
  | nil => rw [ha] at hl; simp at hl; omega
  | cons x t =>
    have hx : x ∈ s.all := by rw [ha]; simp
    have hp := h.ok.all_mem.1 hx
    obtain ⟨x1, x2⟩ := x
    obtain ⟨h1, h2⟩ := h.pr _ _ hp
    have h1 : x1 < n := h1
    have h2 : x2 = P x1 := h2
    subst h2
    have hb := (h.ok.bd _ _ hp).1
    have hb : x1 < 64 := hb
    have hlex : (s.all).Pairwise lexP := flat_lex h.srt 101
    have hpr : (s.pr x1).isSome = true := by rw [show s.pr x1 = some (P x1) from hp]; rfl
    refine ⟨x1, h1, Or.inr ⟨_, t, ha, rfl, rfl, rfl⟩, Or.inr ⟨⟨⟨by omega, by omega⟩, hpr⟩, rfl, rfl⟩, ⟨h.ok.go x1, fun j p hj => ?_, fun q => (h.srt q).filter _, ?_, Or.inr ⟨x1, rfl, h1, fun y hy => ?_⟩⟩, ?_⟩
    · have hj : (if j = x1 then none else s.pr j) = some p := hj
      by_cases e : j = x1
      · rw [if_pos e] at hj; cases hj
      · rw [if_neg e] at hj; exact h.pr j p hj
    · have := go_len h.ok hpr; omega
    · rw [go_all, ha] at hy
      obtain ⟨hy1, hy2⟩ := List.mem_filter.1 hy
      rw [ha] at hlex
      rcases List.mem_cons.1 hy1 with rfl | hy1
      · simp at hy2
      · exact (List.pairwise_cons.1 hlex).1 y hy1
    · rcases h.last with e | ⟨l, e, hl1, hl2⟩
      · exact Or.inl e
      · exact Or.inr ⟨l, e, hl1, hl2 _ hx⟩
/-! ### Who goes leaves the others -/
def wo (id : Nat) (l : List Nat) : List Nat := l.filter fun j => decide (j ≠ id)
theorem wo_snoc {l : List Nat} {j x id : Nat} (h : l[j]? = some x) : wo id (l.take (j + 1)) = wo id (l.take j) ++ (if x = id then [] else [x]) := by
  unfold wo
  rw [List.take_add_one, h, List.filter_append]
  by_cases e : x = id
  · rw [if_pos e]; simp [e]
  · rw [if_neg e]; simp [e]
theorem wo_get {l : List Nat} {j x id : Nat} (h : l[j]? = some x) (hx : x ≠ id) : (wo id l)[(wo id (l.take j)).length]? = some x := by
  have e : wo id l = wo id (l.take (j + 1)) ++ wo id (l.drop (j + 1)) := by
    unfold wo; rw [← List.filter_append, List.take_append_drop]
  rw [e, wo_snoc h, if_neg hx, List.append_assoc, List.getElem?_append_right (Nat.le_refl _), Nat.sub_self]; rfl
theorem wo_len (id : Nat) (l : List Nat) (j : Nat) : (wo id (l.take j)).length ≤ (wo id l).length := by
  have e : wo id l = wo id (l.take j) ++ wo id (l.drop j) := by
    unfold wo; rw [← List.filter_append, List.take_append_drop]
  rw [e, List.length_append]; omega
/-- A going, told by what stands before and after. -/
theorem goes_ex {m : Nat} {s : QS} (h : s.ok m) {k : Nat} (hk : k < 64) : ∃ (f : Int) (s' : QS), GoP s (k : Nat) f s' ∧ s'.ok m ∧ s'.ids = wo k s.ids ∧ s'.pr k = none ∧
    ((f = 0 ∧ (s'.all.length : Int) < s.all.length) ∨ (f = 6 ∧ s'.all.length = s.all.length)) := by
  cases hp : s.pr k with
  | none =>
    refine ⟨6, s, Or.inl ⟨fun hh => ?_, rfl, rfl⟩, h, ?_, hp, Or.inr ⟨rfl, rfl⟩⟩
    · have := hh.2; rw [Int.toNat_natCast, hp] at this; cases this
    · unfold wo; rw [filter_no]; intro hc; have := h.mem_ids.1 hc; rw [hp] at this; cases this
  | some p =>
    have hi : (s.pr k).isSome = true := by rw [hp]; rfl
    refine ⟨0, s.go k, Or.inr ⟨⟨⟨by omega, by omega⟩, hi⟩, rfl, rfl⟩, h.go k, go_ids s k, go_none s k, Or.inl ⟨rfl, ?_⟩⟩
    have := go_len h hi; omega
theorem again_ok {m : Nat} {s : QS} (h : s.ok m) {k : Nat} (hk : k < 64) (hn : s.pr k = none) (hm : m + 1 ≤ 1000) :
    ComeP s (k : Nat) 50 0 (s.come k 50) ∧ ComeP (s.come k 50) (k : Nat) 50 7 (s.come k 50) ∧ (s.come k 50).ok (m + 1) := by
  have hq : mayQ (k : Nat) 50 := ⟨⟨by omega, by omega⟩, by omega, by omega⟩
  refine ⟨Or.inr (Or.inr ⟨hq, hn, rfl, rfl⟩), Or.inr (Or.inl ⟨hq, ⟨hq.1, ?_⟩, rfl, rfl⟩), h.come hk (by omega) hn hm⟩
  show (if ((k : Nat) : Int).toNat = k then some 50 else _).isSome = true
  rw [Int.toNat_natCast, if_pos rfl]; rfl
end Go.Proofs.Ytdemhhmceiaohaa
