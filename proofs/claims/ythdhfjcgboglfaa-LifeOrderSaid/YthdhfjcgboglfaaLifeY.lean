/- Layer 19: in which order they come out: the words. -/
import Derived.Test.YthdhfjcgboglfaaLifeV
import Derived.Test.YthdhfjcgboglfaaLifeW
namespace Go.Proofs.Ythdhfjcgboglfaa
open Go.RowKit
set_option linter.unusedVariables false
set_option maxRecDepth 100000
set_option maxHeartbeats 2000000
/-- Of n requests those from j on whose number is a multiple of five were answered, the highest first. -/
structure AnsS (D : Nat → Int) (n j : Nat) (s : Bk) : Prop where
  ok : s.ok
  cost : s.cost = 5
  now : s.now = 0
  cnt : cntO s.op + s.un.length = n
  ex : ∃ l : List Nat, s.op = opJ (opN D n) l ∧ s.un.map Ft.id = l.map (fun x => ((x : Nat) : Int)) ∧ l.Pairwise (fun a b => b < a) ∧ ∀ x, x ∈ l ↔ j ≤ x ∧ x < n ∧ x % 5 = 0
section
variable {D : Nat → Int} {n j : Nat} {s : Bk} {u : Int} {o : List Ft}
theorem AnsS.new (hn : n ≤ 64) (hD : ∀ k, k < n → 0 + 5 < D k ∧ D k < 4611686018427387904) : AnsS D n n ⟨5, 0, opN D n, []⟩ :=
  ⟨okN (by omega) (by omega) (by omega) hn hD, rfl, rfl, by show cntO (opN D n) + 0 = n; rw [cntO_N hn]; omega, [], by rw [opJ_nil], rfl, List.Pairwise.nil, fun x => ⟨fun h => (by cases h), fun h => (by omega)⟩⟩
theorem AnsS.skip (h : AnsS D n (j + 1) s) (hj : j % 5 ≠ 0) : AnsS D n j s := by
  obtain ⟨l, e1, e2, e3, e4⟩ := h.ex
  refine ⟨h.ok, h.cost, h.now, h.cnt, l, e1, e2, e3, fun x => ?_⟩
  rw [e4]
  constructor
  · rintro ⟨a, b, c⟩; exact ⟨by omega, b, c⟩
  · rintro ⟨a, b, c⟩
    refine ⟨?_, b, c⟩
    by_cases e : x = j
    · subst e; exact absurd c hj
    · omega
theorem AnsS.ans (h : AnsS D n (j + 1) s) (hn : n ≤ 64) (hj : j < n) (h5 : j % 5 = 0) {st : Int} (h0 : 0 ≤ st) (h1 : st ≤ 255) (bad : Bool) : ansA s (j : Int) st = 0 ∧ AnsS D n j (s.ans (j : Int) st bad) := by
  obtain ⟨l, e1, e2, e3, e4⟩ := h.ex
  have hjl : j ∉ l := fun hm => by have := (e4 j).1 hm; omega
  have hN : opN D n j = some ((j : Int), D j) := if_pos hj
  have hop : s.op j = some ((j : Int), D j) := by rw [e1]; exact opJ_of hN (by rw [show ((j : Int), D j).1.toNat = j from Int.toNat_natCast j]; exact hjl)
  have hs := h.ok.U.slot hop
  have hc : ¬ (st < 0 ∨ 255 < st) := by omega
  have ea : ansA s (j : Int) st = 0 := by unfold ansA outA; rw [if_neg hc, hs]; rfl
  refine ⟨ea, ?_⟩
  have eo : s.ans (j : Int) st bad = s.out (if bad then ⟨(j : Int), 2, 2⟩ else ⟨(j : Int), 1, st⟩) := if_neg hc
  obtain ⟨f, hf, hid⟩ : ∃ f : Ft, (if bad = true then (⟨(j : Int), 2, 2⟩ : Ft) else ⟨(j : Int), 1, st⟩) = f ∧ f.id = (j : Int) := ⟨_, rfl, by cases bad <;> rfl⟩
  rw [eo, hf]
  have hs' : slotO s.op f.id = some j := by rw [hid]; exact hs
  obtain ⟨c1, c2, c3, c4⟩ := cnt_out hs'
  have hop' : (s.out f).op = updO s.op j none := by rw [Bk.out_some hs']
  refine ⟨h.ok.out f, c4.trans h.cost, c3.trans h.now, ?_, l ++ [j], ?_, ?_, ?_, fun x => ?_⟩
  · rw [c2, List.length_append]
    have := h.cnt
    show cntO (s.out f).op + (s.un.length + 1) = n
    omega
  · rw [hop', e1]
    exact opJ_step (uqN hn) (fun k x hx => by obtain ⟨a, rfl⟩ := opN_some hx; show (0 : Int) ≤ (k : Int); omega) hN
  · rw [c2, List.map_append, List.map_append, e2]
    show _ ++ [f.id] = _
    rw [hid]; rfl
  · rw [List.pairwise_append]
    refine ⟨e3, List.pairwise_singleton _ _, fun x hx y hy => ?_⟩
    have := (e4 x).1 hx
    obtain rfl : y = j := by simpa using hy
    omega
  · rw [List.mem_append, e4, List.mem_singleton]
    constructor
    · rintro (⟨a, b, c⟩ | rfl)
      · exact ⟨by omega, b, c⟩
      · exact ⟨Nat.le_refl _, hj, h5⟩
    · rintro ⟨a, b, c⟩
      by_cases e : x = j
      · exact Or.inr e
      · exact Or.inl ⟨by omega, b, c⟩
/-- One comes out ahead of another. -/
def AhD (D : Nat → Int) (n : Nat) (x y : Int) : Prop := ∃ a b : Nat, x = (a : Int) ∧ y = (b : Int) ∧ a < n ∧ b < n ∧ (a % 5 = 0 ∧ b % 5 = 0 ∧ b < a ∨ a % 5 = 0 ∧ b % 5 ≠ 0 ∨ a % 5 ≠ 0 ∧ b % 5 ≠ 0 ∧ (D a < D b ∨ D a = D b ∧ a < b))
theorem AnsS.told (h : AnsS D n 0 s) (hg : goA s.now u = 0) (hD : ∀ k, k < n → D k - 5 ≤ u) (ho : OutP s u o) : o.length = n ∧ (o.map Ft.id).Pairwise (AhD D n) := by
  unfold OutP at ho
  rw [if_pos hg] at ho
  obtain ⟨q, hq, rfl⟩ := ho
  obtain ⟨l, e1, e2, e3, e4⟩ := h.ex
  have hopn : ∀ k x, s.op k = some x → k < n ∧ x = ((k : Int), D k) ∧ k ∉ l := fun k x hx => by
    rw [e1] at hx
    obtain ⟨a, b⟩ := opJ_some hx
    obtain ⟨c, rfl⟩ := opN_some a
    exact ⟨c, rfl, by rw [show ((k : Int), D k).1.toNat = k from Int.toNat_natCast k] at b; exact b⟩
  have hall : ∀ k x, s.op k = some x → x.2 - s.cost ≤ u := fun k x hx => by
    obtain ⟨a, rfl, _⟩ := hopn k x hx
    rw [h.cost]; exact hD k a
  have hql := late_all h.ok hq hall
  have hin : ∀ x, x ∈ q → x < n ∧ x % 5 ≠ 0 ∧ dN s.op x = D x ∧ x % 65536 = x := fun x hx => by
    obtain ⟨k, d, hk, _⟩ := (hq.mem x).1 hx
    obtain ⟨a, b, c⟩ := hopn k _ hk
    injection b with b b2
    have : x = k := by omega
    subst this
    refine ⟨a, fun h5 => c ((e4 x).2 ⟨Nat.zero_le _, a, h5⟩), ?_, (dead_of h.ok hk).2⟩
    rw [(dead_of h.ok hk).1, b2]
  have eids : (fLate q).map Ft.id = q.map fun y => ((y : Nat) : Int) := by unfold fLate; rw [List.map_map]; rfl
  refine ⟨?_, ?_⟩
  · rw [List.length_append]
    have := h.cnt
    have : (fLate q).length = q.length := by unfold fLate; rw [List.length_map]
    omega
  · rw [List.map_append, e2, eids, List.pairwise_append]
    refine ⟨?_, ?_, fun x hx y hy => ?_⟩
    · refine List.Pairwise.map _ (R := fun a b => (a ∈ l ∧ b ∈ l) ∧ b < a) ?_ (e3.imp_of_mem fun ha hb h => ⟨⟨ha, hb⟩, h⟩)
      rintro a b ⟨⟨ha, hb⟩, hab⟩
      obtain ⟨_, a1, a2⟩ := (e4 a).1 ha
      obtain ⟨_, b1, b2⟩ := (e4 b).1 hb
      exact ⟨a, b, rfl, rfl, a1, b1, Or.inl ⟨a2, b2, hab⟩⟩
    · refine List.Pairwise.map _ (R := fun a b => (a ∈ q ∧ b ∈ q) ∧ ltN s.op a b) ?_ (hq.pw.imp_of_mem fun ha hb h => ⟨⟨ha, hb⟩, h⟩)
      rintro a b ⟨⟨ha, hb⟩, hab⟩
      obtain ⟨a1, a2, a3, a4⟩ := hin a ha
      obtain ⟨b1, b2, b3, b4⟩ := hin b hb
      unfold ltN at hab
      rw [a3, b3, a4, b4] at hab
      exact ⟨a, b, rfl, rfl, a1, b1, Or.inr (Or.inr ⟨a2, b2, hab⟩)⟩
    · obtain ⟨a, ha, rfl⟩ := List.mem_map.1 hx
      obtain ⟨b, hb, rfl⟩ := List.mem_map.1 hy
      obtain ⟨_, a1, a2⟩ := (e4 a).1 ha
      obtain ⟨b1, b2, _⟩ := hin b hb
      exact ⟨a, b, rfl, rfl, a1, b1, Or.inr (Or.inl ⟨a2, b2⟩)⟩
end
end Go.Proofs.Ythdhfjcgboglfaa
