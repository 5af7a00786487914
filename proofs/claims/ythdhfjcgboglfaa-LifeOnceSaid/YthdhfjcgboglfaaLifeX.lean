/- Layer 19: each request that was opened comes out once: the words. -/
import Derived.Test.YthdhfjcgboglfaaLifeW
namespace Go.Proofs.Ythdhfjcgboglfaa
open Go.RowKit
set_option linter.unusedVariables false
set_option maxRecDepth 100000
set_option maxHeartbeats 2000000
/-- How many of the twenty aren't zero. -/
def nzO (O : Nat → Int) : Nat := cf (fun x => decide (O x ≠ 0)) 20
def upO (O : Nat → Int) (x : Nat) (d : Int) : Nat → Int := fun j => if j = x then d else O j
theorem upO_self (O : Nat → Int) (x : Nat) (d : Int) : upO O x d x = d := if_pos rfl
theorem upO_ne (O : Nat → Int) {x j : Nat} (d : Int) (h : j ≠ x) : upO O x d j = O j := if_neg h
theorem nzO_up (O : Nat → Int) {x : Nat} (d : Int) (hx : x < 20) : nzO (upO O x d) + (if O x ≠ 0 then 1 else 0) = nzO O + (if d ≠ 0 then 1 else 0) := by
  have h := (cf_upd (fun x => decide (O x ≠ 0)) x (decide (d ≠ 0)) 20).1 hx
  have e : (fun j => if j = x then decide (d ≠ 0) else decide (O j ≠ 0)) = fun j => decide (upO O x d j ≠ 0) := by
    funext j
    unfold upO
    by_cases hj : j = x
    · rw [if_pos hj, if_pos hj]
    · rw [if_neg hj, if_neg hj]
  rw [e] at h
  simp only [decide_eq_true_eq] at h
  exact h
theorem nzO_put {O : Nat → Int} {x : Nat} {d : Int} (hx : x < 20) (h : O x = 0) (hd : d ≠ 0) : nzO (upO O x d) = nzO O + 1 := by
  have := nzO_up O d hx
  rw [if_neg (by simpa using h), if_pos hd] at this
  omega
theorem nzO_del {O : Nat → Int} {x : Nat} (hx : x < 20) (h : O x ≠ 0) : nzO (upO O x 0) + 1 = nzO O := by
  have := nzO_up O 0 hx
  rw [if_pos h, if_neg (by simp)] at this
  omega
/-- Zero, where they came out. -/
def zO (O : Nat → Int) (l : List Ft) (x : Nat) : Int := if (x : Int) ∈ l.map Ft.id then 0 else O x
theorem zO_nil (O : Nat → Int) : zO O [] = O := by funext x; exact if_neg (by simp)
theorem zO_at {O : Nat → Int} {o : List Ft} (nd : (o.map Ft.id).Nodup) {k x : Nat} {f : Ft} (h : o[k]? = some f) (hid : f.id = (x : Int)) : zO O (o.take k) x = O x ∧ zO O (o.take (k + 1)) = upO (zO O (o.take k)) x 0 := by
  obtain ⟨hk, he⟩ := List.getElem?_eq_some_iff.1 h
  have e : o.take (k + 1) = o.take k ++ [f] := by rw [List.take_add_one, h]; rfl
  have hn : (x : Int) ∉ (o.take k).map Ft.id := by
    have nd2 : ((o.take (k + 1)).map Ft.id).Nodup := nd.sublist ((List.take_sublist _ _).map _)
    rw [e, List.map_append, List.nodup_append] at nd2
    intro hm
    exact nd2.2.2 _ hm f.id (by simp) hid.symm
  refine ⟨if_neg hn, ?_⟩
  funext j
  unfold upO zO
  rw [e, List.map_append]
  by_cases hj : j = x
  · subst hj
    rw [if_pos rfl, if_pos (List.mem_append_right _ (by simp [hid]))]
  · rw [if_neg hj]
    have : (j : Int) ∉ [f].map Ft.id := by simp [hid]; omega
    by_cases hm : (j : Int) ∈ (o.take k).map Ft.id
    · rw [if_pos hm, if_pos (List.mem_append_left _ hm)]
    · rw [if_neg hm, if_neg (fun h => (List.mem_append.1 h).elim hm this)]
/-- A book, and by when each of the twenty must have come out; at most one isn't told. -/
structure OneW (s : Bk) (O : Nat → Int) (c : Int) : Prop where
  cost : s.cost = c
  ids : ∀ k x, s.op k = some x → 0 ≤ x.1 ∧ x.1 < 20 ∧ O x.1.toNat = x.2
  pos : ∀ x, x < 20 → O x = 0 ∨ (s.now + c < O x ∧ O x ≤ s.now + 60)
  hav : ∀ x, x < 20 → O x ≠ 0 → (∃ k, s.op k = some ((x : Int), O x)) ∨ ∃ f, f ∈ s.un ∧ f.id = (x : Int)
  un : ∀ f, f ∈ s.un → 0 ≤ f.id ∧ f.id < 20 ∧ O f.id.toNat ≠ 0 ∧ ¬ (f.kind = 2 ∧ f.why = 1) ∧ ∀ k d, s.op k ≠ some (f.id, d)
  one : s.un.length ≤ 1
theorem OneW.new (c : Int) : OneW (Bk.new c) (fun _ => 0) c :=
  ⟨rfl, fun k x h => (by cases (show (none : Option (Int × Int)) = some x from h)), fun x _ => Or.inl rfl, fun x _ h => absurd rfl h, fun f h => (by cases (show f ∈ ([] : List Ft) from h)), Nat.zero_le _⟩
section
variable {s : Bk} {O : Nat → Int} {c u d : Int} {x : Nat} {f : Ft} {o : List Ft}
theorem OneW.ne (h : OneW s O c) (ok : s.ok) {k : Nat} {x : Int × Int} (hx : s.op k = some x) : x.2 ≠ 0 ∧ s.now + c < x.2 := by
  have := ok.bd k x hx
  have := ok.n0
  have := ok.c0
  have := h.cost
  exact ⟨by omega, by omega⟩
theorem OneW.cnt (h : OneW s O c) (ok : s.ok) (hu : s.un = []) : cntO s.op = nzO O := by
  have hp : (((List.range 64).filter fun k => (s.op k).isSome).map fun k => ((s.op k).getD (0, 0)).1.toNat).Perm ((List.range 20).filter fun x => decide (O x ≠ 0)) := by
    refine (List.perm_ext_iff_of_nodup ?_ (List.nodup_range.filter _)).2 fun x => ?_
    · refine List.Pairwise.map _ (R := fun a b => a ∈ ((List.range 64).filter fun k => (s.op k).isSome) ∧ b ∈ ((List.range 64).filter fun k => (s.op k).isSome) ∧ a ≠ b) ?_ ?_
      · rintro a b ⟨ha, hb, hab⟩ e
        rw [List.mem_filter] at ha hb
        obtain ⟨xa, hxa⟩ := Option.isSome_iff_exists.1 ha.2
        obtain ⟨xb, hxb⟩ := Option.isSome_iff_exists.1 hb.2
        rw [hxa, hxb] at e
        have h1 := ok.bd a xa hxa
        have h2 := ok.bd b xb hxb
        exact hab (ok.U.uq a b xa xb hxa hxb (by have e : xa.1.toNat = xb.1.toNat := e; omega))
      · exact (List.nodup_range.filter _).imp_of_mem fun ha hb hab => ⟨ha, hb, hab⟩
    · rw [List.mem_map, List.mem_filter, List.mem_range, decide_eq_true_eq]
      constructor
      · rintro ⟨k, hk, e⟩
        rw [List.mem_filter] at hk
        obtain ⟨y, hy⟩ := Option.isSome_iff_exists.1 hk.2
        rw [hy] at e
        have e : y.1.toNat = x := e
        obtain ⟨a, b, hO⟩ := h.ids k y hy
        rw [← e]
        exact ⟨by omega, by rw [hO]; exact (h.ne ok hy).1⟩
      · rintro ⟨hx, hne⟩
        rcases h.hav x hx hne with ⟨k, hk⟩ | ⟨f, hf, _⟩
        · refine ⟨k, List.mem_filter.2 ⟨by simpa using ok.U.lt k _ hk, by rw [hk]; rfl⟩, ?_⟩
          rw [hk]; simp
        · rw [hu] at hf; cases hf
  have := hp.length_eq
  rw [List.length_map] at this
  exact this
theorem OneW.slot (h : OneW s O c) (ok : s.ok) (hu : s.un = []) (hx : x < 20) : slotO s.op (x : Int) = none ↔ O x = 0 := by
  constructor
  · intro hs
    apply Decidable.byContradiction
    intro hne
    rcases h.hav x hx hne with ⟨k, hk⟩ | ⟨f, hf, _⟩
    · rw [ok.U.slot hk] at hs; cases hs
    · rw [hu] at hf; cases hf
  · intro h0
    cases hs : slotO s.op (x : Int) with
    | none => rfl
    | some k =>
      obtain ⟨_, d, hd⟩ := slot_some hs
      have h1 := (h.ids k _ hd).2.2
      have h2 := (h.ne ok hd).1
      dsimp only at h1 h2
      rw [Int.toNat_natCast] at h1
      omega
theorem OneW.may (h : OneW s O c) (ok : s.ok) (hu : s.un = []) (hx : x < 20) (hd : d < 4611686018427387904) : opnA s (x : Int) d = 0 ↔ O x = 0 ∧ s.now + c < d := by
  have hc := h.cnt ok hu
  have hn : nzO O ≤ 20 := cf_le _ _
  constructor
  · intro h0
    obtain ⟨_, _, _, h3, _, h4⟩ := opnA_0 h0
    exact ⟨(h.slot ok hu hx).1 h3, by rw [← h.cost]; exact h4⟩
  · rintro ⟨h0, h1⟩
    have hs := (h.slot ok hu hx).2 h0
    unfold opnA
    have := h.cost
    rw [if_neg (by omega), if_neg (by omega), hs, if_neg (by simp), if_neg (by omega), if_neg (by omega)]
theorem OneW.opn (h : OneW s O c) (ok : s.ok) (hu : s.un = []) (hx : x < 20) (h0 : opnA s (x : Int) d = 0) (hd : d ≤ s.now + 60) : OneW (s.opn (x : Int) d) (upO O x d) c := by
  obtain ⟨e1, e2, e3, e4⟩ := cnt_opn h0
  obtain ⟨_, _, _, hs, hn, hlt⟩ := opnA_0 h0
  have hO := (h.slot ok hu hx).1 hs
  obtain ⟨f1, f2, _⟩ := free_get hn
  have hop : (s.opn (x : Int) d).op = updO s.op (freeO s.op) (some ((x : Int), d)) := by unfold Bk.opn; rw [if_pos h0]
  refine ⟨e4.trans h.cost, fun k y hy => ?_, fun y hy => ?_, fun y hy hne => ?_, fun f hf => ?_, by rw [e2]; exact h.one⟩
  · rw [hop] at hy
    by_cases e : k = freeO s.op
    · subst e
      rw [updO_self] at hy
      injection hy with hy
      subst hy
      dsimp only
      rw [Int.toNat_natCast]
      exact ⟨by omega, by omega, upO_self _ _ _⟩
    · rw [updO_ne _ _ e] at hy
      obtain ⟨a, b, e'⟩ := h.ids k y hy
      refine ⟨a, b, ?_⟩
      rw [upO_ne _ _ (by
        intro hyx
        rw [hyx, hO] at e'
        exact (h.ne ok hy).1 e'.symm)]
      exact e'
  · rw [e3]
    by_cases e : y = x
    · subst e
      rw [upO_self]
      exact Or.inr ⟨by rw [← h.cost]; exact hlt, hd⟩
    · rw [upO_ne _ _ e]; exact h.pos y hy
  · refine Or.inl ?_
    rw [hop]
    by_cases e : y = x
    · subst e
      rw [upO_self]
      exact ⟨_, updO_self _ _ _⟩
    · rw [upO_ne _ _ e] at hne ⊢
      rcases h.hav y hy hne with ⟨k, hk⟩ | ⟨f, hf, _⟩
      · exact ⟨k, by rw [updO_ne _ _ (fun hkf => by rw [hkf, f2] at hk; cases hk)]; exact hk⟩
      · rw [hu] at hf; cases hf
  · rw [e2, hu] at hf; cases hf
theorem OneW.out (h : OneW s O c) (ok : s.ok) (hu : s.un = []) (hid : f.id = (x : Int)) (hx : x < 20) (hk : ¬ (f.kind = 2 ∧ f.why = 1)) : OneW (s.out f) O c := by
  cases hs : slotO s.op f.id with
  | none => rw [Bk.out_none hs]; exact h
  | some k =>
    obtain ⟨e1, e2, e3, e4⟩ := cnt_out hs
    obtain ⟨_, d, hd⟩ := slot_some hs
    have hop : (s.out f).op = updO s.op k none := by rw [Bk.out_some hs]
    have hO : O x ≠ 0 := by
      have h1 := (h.ids k _ hd).2.2
      have h2 := (h.ne ok hd).1
      dsimp only at h1 h2
      rw [hid, Int.toNat_natCast] at h1
      omega
    refine ⟨e4.trans h.cost, fun j y hy => h.ids j y (out_at hy), fun y hy => by rw [e3]; exact h.pos y hy, fun y hy hne => ?_, fun g hg => ?_, by rw [e2, hu]; simp⟩
    · by_cases e : y = x
      · subst e
        exact Or.inr ⟨f, by rw [e2]; simp, hid⟩
      · rcases h.hav y hy hne with ⟨j, hj⟩ | ⟨g, hg, _⟩
        · refine Or.inl ⟨j, ?_⟩
          rw [hop, updO_ne _ _ (fun hjk => by
            rw [hjk, hd] at hj
            injection hj with hj
            injection hj with hj _
            omega)]
          exact hj
        · rw [hu] at hg; cases hg
    · rw [e2, hu] at hg
      have hg : g = f := by simpa using hg
      subst hg
      refine ⟨by omega, by omega, by rw [hid, Int.toNat_natCast]; exact hO, hk, fun j d' hj => ?_⟩
      have := slot_none (show slotO (s.out g).op g.id = none by rw [hop, ok.U.slot_del hd g.id, if_pos rfl]) (ok.U.lt j _ (out_at hj)) (d := d')
      exact this hj
theorem OneW.ans (h : OneW s O c) (ok : s.ok) (hu : s.un = []) (hx : x < 20) (bad : Bool) : OneW (s.ans (x : Int) 5 bad) O c := by
  unfold Bk.ans
  rw [if_neg (by omega)]
  cases bad
  · exact h.out ok hu (f := ⟨(x : Int), 1, 5⟩) rfl hx (by simp)
  · exact h.out ok hu (f := ⟨(x : Int), 2, 2⟩) rfl hx (by simp)
/-- What Go tells of them. -/
structure Told (O : Nat → Int) (c u : Int) (o : List Ft) : Prop where
  nd : (o.map Ft.id).Nodup
  at_ : ∀ (i : Nat) (f : Ft), o[i]? = some f → ∃ x : Nat, f.id = (x : Int) ∧ x < 20 ∧ O x ≠ 0 ∧ c ≤ O x ∧ O x ≤ u + 60 ∧ u ≤ O x - c ∧ (f.kind = 2 → f.why = 1 → u = O x - c)
theorem OneW.go (h : OneW s O c) (ok : s.ok) (h0 : s.now ≤ u) (h1 : u ≤ s.now + 1) (hg : goA s.now u = 0) (ho : OutP s u o) : Told O c u o ∧ OneW (s.gon u) (zO O o) c ∧ (s.gon u).un = [] ∧ (s.gon u).now = u := by
  unfold OutP at ho
  rw [if_pos hg] at ho
  obtain ⟨l, hl, rfl⟩ := ho
  have n0 := ok.n0
  have c0 := ok.c0
  have hc := h.cost
  have eop : (s.gon u).op = opF s u := by unfold Bk.gon; rw [if_pos hg]
  have eun : (s.gon u).un = [] := by unfold Bk.gon; rw [if_pos hg]
  have enow : (s.gon u).now = u := by unfold Bk.gon; rw [if_pos hg]
  have ecost : (s.gon u).cost = c := by rw [← hc]; unfold Bk.gon; rw [if_pos hg]
  have L : ∀ y : Nat, y ∈ l → y < 20 ∧ ∃ k, s.op k = some ((y : Int), O y) ∧ O y - c ≤ u ∧ s.now + c < O y := fun y hy => by
    obtain ⟨k, d, hk, hd⟩ := (hl.mem y).1 hy
    obtain ⟨a, b, e⟩ := h.ids k _ hk
    have := (h.ne ok hk).2
    dsimp only at a b e this
    rw [Int.toNat_natCast] at e
    rw [e]
    exact ⟨by omega, k, hk, by omega, this⟩
  have eids : (fLate l).map Ft.id = l.map fun y => ((y : Nat) : Int) := by unfold fLate; rw [List.map_map]; rfl
  have hmem : ∀ y : Nat, (y : Int) ∈ (s.un ++ fLate l).map Ft.id → (∃ f, f ∈ s.un ∧ f.id = (y : Int)) ∨ y ∈ l := fun y hy => by
    rw [List.map_append, List.mem_append, eids, List.mem_map, List.mem_map] at hy
    rcases hy with hy | ⟨z, hz, e⟩
    · exact Or.inl hy
    · have : z = y := by omega
      subst this
      exact Or.inr hz
  have hmem2 : ∀ y : Nat, y ∈ l → (y : Int) ∈ (s.un ++ fLate l).map Ft.id := fun y hy => by
    rw [List.map_append, List.mem_append, eids]
    exact Or.inr (List.mem_map.2 ⟨y, hy, rfl⟩)
  refine ⟨⟨?_, fun i f hf => ?_⟩, ⟨ecost, fun k y hy => ?_, fun y hy => ?_, fun y hy hne => ?_, fun f hf => ?_, by rw [eun]; exact Nat.zero_le _⟩, eun, enow⟩
  · rw [List.map_append, List.nodup_append]
    refine ⟨?_, ?_, ?_⟩
    · have := h.one
      match hs : s.un, this with
      | [], _ => exact List.nodup_nil
      | [f], _ => simp
      | f :: g :: t, h2 => simp at h2
    · rw [eids]
      exact List.Pairwise.map _ (fun a b hab e => hab (by omega)) hl.nd
    · intro a ha b hb e
      subst e
      obtain ⟨f, hf, rfl⟩ := List.mem_map.1 ha
      rw [eids] at hb
      obtain ⟨y, hy, e⟩ := List.mem_map.1 hb
      obtain ⟨_, k, hk, _⟩ := L y hy
      rw [e] at hk
      exact (h.un f hf).2.2.2.2 k _ hk
  · have hf := List.mem_of_getElem? hf
    rcases List.mem_append.1 hf with hf | hf
    · obtain ⟨a, b, hne, hk, _⟩ := h.un f hf
      refine ⟨f.id.toNat, by omega, by omega, hne, ?_, ?_, ?_, fun k1 k2 => absurd ⟨k1, k2⟩ hk⟩
      · rcases h.pos f.id.toNat (by omega) with e | e
        · exact absurd e hne
        · omega
      · rcases h.pos f.id.toNat (by omega) with e | e
        · exact absurd e hne
        · omega
      · rcases h.pos f.id.toNat (by omega) with e | e
        · exact absurd e hne
        · omega
    · unfold fLate at hf
      obtain ⟨y, hy, rfl⟩ := List.mem_map.1 hf
      obtain ⟨hy20, k, hk, hd, hd2⟩ := L y hy
      have hb := h.pos y hy20
      exact ⟨y, rfl, hy20, by omega, by omega, by omega, by omega, fun _ _ => by omega⟩
  · rw [eop] at hy
    obtain ⟨a, b⟩ := opF_some.1 hy
    obtain ⟨i1, i2, i3⟩ := h.ids k y a
    refine ⟨i1, i2, ?_⟩
    have ey : ((y.1.toNat : Nat) : Int) = y.1 := by omega
    have : ((y.1.toNat : Nat) : Int) ∉ (s.un ++ fLate l).map Ft.id := fun hm => by
      rcases hmem _ hm with ⟨f, hf, e⟩ | hyl
      · refine (h.un f hf).2.2.2.2 k y.2 ?_
        rw [e, ey]; exact a
      · obtain ⟨_, k', hk', hd, _⟩ := L _ hyl
        rw [i3] at hd
        omega
    unfold zO
    rw [if_neg this]; exact i3
  · rw [enow]
    by_cases hm : (y : Int) ∈ (s.un ++ fLate l).map Ft.id
    · exact Or.inl (if_pos hm)
    · have e : zO O (s.un ++ fLate l) y = O y := if_neg hm
      rw [e]
      rcases h.pos y hy with e0 | e0
      · exact Or.inl e0
      · refine Or.inr ⟨?_, by omega⟩
        rcases h.hav y hy (by omega) with ⟨k, hk⟩ | ⟨f, hf, e1⟩
        · apply Decidable.byContradiction
          intro hn
          exact hm (hmem2 y ((hl.mem y).2 ⟨k, _, hk, by omega⟩))
        · exact absurd (by rw [List.map_append]; exact List.mem_append_left _ (List.mem_map.2 ⟨f, hf, e1⟩)) hm
  · by_cases hm : (y : Int) ∈ (s.un ++ fLate l).map Ft.id
    · exact absurd (if_pos hm) hne
    · have e : zO O (s.un ++ fLate l) y = O y := if_neg hm
      rw [e] at hne ⊢
      rcases h.hav y hy hne with ⟨k, hk⟩ | ⟨f, hf, e1⟩
      · refine Or.inl ⟨k, ?_⟩
        rw [eop]
        refine opF_some.2 ⟨hk, ?_⟩
        apply Decidable.byContradiction
        intro hn
        exact hm (hmem2 y ((hl.mem y).2 ⟨k, _, hk, by dsimp only at hn; omega⟩))
      · exact absurd (by rw [List.map_append]; exact List.mem_append_left _ (List.mem_map.2 ⟨f, hf, e1⟩)) hm
  · rw [eun] at hf; cases hf
/-- In the end all come out. -/
theorem OneW.end_ (h : OneW s O c) (ok : s.ok) (hu : s.un = []) (h0 : s.now + 60 ≤ u) (hg : goA s.now u = 0) (ho : OutP s u o) : o.length = nzO O ∧ cntO (s.gon u).op = 0 := by
  have hall : ∀ k x, s.op k = some x → x.2 - s.cost ≤ u := fun k x hx => by
    obtain ⟨a, b, e⟩ := h.ids k x hx
    have h1 := h.pos x.1.toNat (by omega)
    have h2 := (h.ne ok hx).1
    have := ok.c0
    rcases h1 with h1 | h1 <;> omega
  unfold OutP at ho
  rw [if_pos hg] at ho
  obtain ⟨l, hl, rfl⟩ := ho
  refine ⟨?_, gon_all hg hall⟩
  rw [hu, List.nil_append, ← h.cnt ok hu, ← late_all ok hl hall]
  unfold fLate; rw [List.length_map]
end
end Go.Proofs.Ythdhfjcgboglfaa
