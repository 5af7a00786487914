/- Layer 19: how many are open, and how many come out. -/
import Derived.Test.YthdhfjcgboglfaaLifeU
namespace Go.Proofs.Ythdhfjcgboglfaa
open Go.RowKit
set_option linter.unusedVariables false
set_option maxRecDepth 100000
set_option maxHeartbeats 2000000
section
variable {s : Bk} {u id dead : Int} {l : List Nat} {f : Ft}
theorem cnt_opn (h : opnA s id dead = 0) : cntO (s.opn id dead).op = cntO s.op + 1 ∧ (s.opn id dead).un = s.un ∧ (s.opn id dead).now = s.now ∧ (s.opn id dead).cost = s.cost := by
  obtain ⟨_, _, _, _, hn, _⟩ := opnA_0 h
  obtain ⟨f1, f2, _⟩ := free_get hn
  unfold Bk.opn
  rw [if_pos h]
  exact ⟨cntO_put f1 f2 _, rfl, rfl, rfl⟩
theorem opn_at (h : opnA s id dead = 0) {k : Nat} {x : Int × Int} (hx : (s.opn id dead).op k = some x) : s.op k = some x ∨ x = (id, dead) := by
  unfold Bk.opn at hx
  rw [if_pos h] at hx
  have hx : updO s.op (freeO s.op) (some (id, dead)) k = some x := hx
  by_cases e : k = freeO s.op
  · subst e; rw [updO_self] at hx; injection hx with hx; exact Or.inr hx.symm
  · rw [updO_ne _ _ e] at hx; exact Or.inl hx
theorem cnt_out {k : Nat} (h : slotO s.op f.id = some k) : cntO (s.out f).op + 1 = cntO s.op ∧ (s.out f).un = s.un ++ [f] ∧ (s.out f).now = s.now ∧ (s.out f).cost = s.cost := by
  rw [Bk.out_some h]
  obtain ⟨hk, d, hd⟩ := slot_some h
  exact ⟨cntO_del hk hd, rfl, rfl, rfl⟩
theorem out_at {k : Nat} {x : Int × Int} (hx : (s.out f).op k = some x) : s.op k = some x := by
  cases h : slotO s.op f.id with
  | none => rw [Bk.out_none h] at hx; exact hx
  | some j =>
    rw [Bk.out_some h] at hx
    have hx : updO s.op j none k = some x := hx
    by_cases e : k = j
    · subst e; rw [updO_self] at hx; cases hx
    · rw [updO_ne _ _ e] at hx; exact hx
/-- All are late: as many come out as are open. -/
theorem late_all (ok : s.ok) (h : LateQ s u l) (hu : ∀ k x, s.op k = some x → x.2 - s.cost ≤ u) : l.length = cntO s.op := by
  have hp : l.Perm (((List.range 64).filter fun k => (s.op k).isSome).map fun k => ((s.op k).getD (0, 0)).1.toNat) := by
    refine (List.perm_ext_iff_of_nodup h.nd ?_).2 fun x => ?_
    · refine List.Pairwise.map _ (R := fun a b => a ∈ ((List.range 64).filter fun k => (s.op k).isSome) ∧ b ∈ ((List.range 64).filter fun k => (s.op k).isSome) ∧ a ≠ b) ?_ ?_
      · rintro a b ⟨ha, hb, hab⟩ e
        rw [List.mem_filter] at ha hb
        obtain ⟨xa, hxa⟩ := Option.isSome_iff_exists.1 ha.2
        obtain ⟨xb, hxb⟩ := Option.isSome_iff_exists.1 hb.2
        rw [hxa, hxb] at e
        have h1 := ok.bd a xa hxa
        have h2 := ok.bd b xb hxb
        exact hab (ok.U.uq a b xa xb hxa hxb (by have e : xa.1.toNat = xb.1.toNat := e; omega))
      · exact (List.nodup_range.filter _).imp_of_mem fun ha hb hab => ⟨ha, hb, hab⟩
    · rw [h.mem, List.mem_map]
      constructor
      · rintro ⟨k, d, hk, _⟩
        refine ⟨k, List.mem_filter.2 ⟨by simpa using ok.U.lt k _ hk, by rw [hk]; rfl⟩, ?_⟩
        rw [hk]; simp
      · rintro ⟨k, hk, e⟩
        rw [List.mem_filter] at hk
        obtain ⟨y, hy⟩ := Option.isSome_iff_exists.1 hk.2
        rw [hy] at e
        have hb := ok.bd k y hy
        have e : y.1.toNat = x := e
        refine ⟨k, y.2, ?_, hu k y hy⟩
        rw [hy, ← e]
        congr 1
        ext
        · simp; omega
        · rfl
  rw [hp.length_eq, List.length_map]; rfl
/-- None is late: none comes out. -/
theorem late_none (h : LateQ s u l) (hu : ∀ k x, s.op k = some x → u < x.2 - s.cost) : l = [] := by
  cases l with
  | nil => rfl
  | cons x l =>
    obtain ⟨k, d, hk, hd⟩ := (h.mem x).1 (by simp)
    have := hu k _ hk
    dsimp only at this
    omega
theorem gon_all (hg : goA s.now u = 0) (hu : ∀ k x, s.op k = some x → x.2 - s.cost ≤ u) : cntO (s.gon u).op = 0 := by
  have e : (s.gon u).op = fun _ => none := by
    unfold Bk.gon; rw [if_pos hg]
    funext k
    show opF s u k = none
    cases h : opF s u k with
    | none => rfl
    | some x =>
      obtain ⟨a, b⟩ := opF_some.1 h
      have := hu k x a
      omega
  rw [e]; exact cf_none 64
theorem gon_same (hg : goA s.now u = 0) (hu : ∀ k x, s.op k = some x → u < x.2 - s.cost) : (s.gon u).op = s.op := by
  unfold Bk.gon; rw [if_pos hg]
  funext k
  show opF s u k = s.op k
  refine Option.ext fun x => ?_
  rw [opF_some]
  exact ⟨fun h => h.1, fun h => ⟨h, hu k x h⟩⟩
end
end Go.Proofs.Ythdhfjcgboglfaa
