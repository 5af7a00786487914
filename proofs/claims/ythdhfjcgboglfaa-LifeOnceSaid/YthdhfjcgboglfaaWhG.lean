/- Layer 4: which timers go off, in which order. Plain theorems. -/
import Derived.Test.YthdhfjcgboglfaaWhF
namespace Go.Proofs.Ythdhfjcgboglfaa
set_option linter.unusedVariables false
/-- The timers that are there after the time went on to u. -/
def aft (T : Int → Option Int) (u : Int) : Int → Option Int := fun i => match T i with
  | some a => if a ≤ u then none else some a
  | none => none
/-- Of two timers, the one goes off ahead of the other. -/
def ltT (T : Int → Option Int) (i j : Int) : Prop := (T i).getD 0 < (T j).getD 0 ∨ (T i).getD 0 = (T j).getD 0 ∧ i < j
/-- What goes off as the time goes on to u. -/
structure OffP (T : Int → Option Int) (u : Int) (o : List Int) : Prop where
  sort : o.Pairwise (ltT T)
  mem : ∀ i, i ∈ o ↔ ∃ a, T i = some a ∧ a ≤ u
section
variable {T : Int → Option Int} {now u u' a : Int} {i j : Int} {o o' : List Int}
theorem aft_some (h : aft T u i = some a) : T i = some a ∧ u < a := by
  unfold aft at h
  cases hT : T i with
  | none => rw [hT] at h; cases h
  | some b =>
    rw [hT] at h
    dsimp only at h
    split at h
    · cases h
    · injection h with h; subst h; exact ⟨rfl, by omega⟩
theorem aft_at (h : T i = some a) (hu : u < a) : aft T u i = some a := by
  unfold aft; rw [h]; exact if_neg (by omega)
theorem aft_off (h : T i = some a) (hu : a ≤ u) : aft T u i = none := by
  unfold aft; rw [h]; exact if_pos hu
theorem aft_none (h : T i = none) : aft T u i = none := by unfold aft; rw [h]
theorem aft_iff : aft T u i = some a ↔ T i = some a ∧ u < a := ⟨aft_some, fun h => aft_at h.1 h.2⟩
theorem opt_ext {α : Type} {x y : Option α} (h : ∀ a, x = some a ↔ y = some a) : x = y := by
  cases x with
  | none => cases y with
    | none => rfl
    | some b => exact absurd ((h b).2 rfl) (by simp)
  | some b => exact ((h b).1 rfl).symm
theorem aft_aft (h : u ≤ u') : aft (aft T u) u' = aft T u' := by
  funext i
  exact opt_ext fun a => by
    rw [aft_iff, aft_iff, aft_iff]
    constructor
    · rintro ⟨⟨h1, h2⟩, h3⟩; exact ⟨h1, h3⟩
    · rintro ⟨h1, h2⟩; exact ⟨⟨h1, by omega⟩, h2⟩
theorem aft_like (h : ∀ i a, T i = some a → u < a) : aft T u = T := by
  funext i
  exact opt_ext fun a => by
    rw [aft_iff]
    exact ⟨fun h => h.1, fun h1 => ⟨h1, h i a h1⟩⟩
theorem TOK.aft (ok : TOK now T) (h : now ≤ u) (hu : u < 4611686018427387904) : TOK u (aft T u) := ⟨by have := ok.n0; omega, hu, fun i a h => by
  obtain ⟨h1, h2⟩ := aft_some h
  obtain ⟨a1, a2, a3, a4⟩ := ok.t i a h1
  exact ⟨a1, a2, h2, a4⟩⟩
theorem OffP.nil (ok : TOK now T) : OffP T now [] := ⟨.nil, fun i => ⟨fun h => (by cases h), fun ⟨a, h, hu⟩ => by have := (ok.t i a h).2.2.1; omega⟩⟩
theorem ltT_irr : ¬ ltT T i i := fun h => by rcases h with h | ⟨_, h⟩ <;> omega
theorem ltT_asymm (h : ltT T i j) : ¬ ltT T j i := fun h' => by
  rcases h with h | ⟨h1, h2⟩ <;> rcases h' with h' | ⟨h1', h2'⟩ <;> omega
theorem OffP.nodup (h : OffP T u o) : o.Nodup := List.Pairwise.imp (S := fun a b => a ≠ b) (fun {a b} (hab : ltT T a b) (e : a = b) => ltT_irr (T := T) (i := a) (by rw [← e] at hab; exact hab)) h.sort
/-- There is one answer. -/
theorem OffP.uniq (h : OffP T u o) (h' : OffP T u o') : o = o' := by
  have hp : o.Perm o' := (List.perm_ext_iff_of_nodup h.nodup h'.nodup).2 fun i => (h.mem i).trans (h'.mem i).symm
  exact hp.eq_of_pairwise (le := ltT T) (fun a b _ _ h1 h2 => absurd h2 (ltT_asymm h1)) h.sort h'.sort
/-- First to u, then on to u'. -/
theorem OffP.app (h : OffP T u o) (hu : u ≤ u') (h' : OffP (aft T u) u' o') : OffP T u' (o ++ o') := by
  have m' : ∀ i ∈ o', ∃ a, T i = some a ∧ u < a ∧ a ≤ u' := fun i hi => by
    obtain ⟨a, ha, hau⟩ := (h'.mem i).1 hi
    exact ⟨a, (aft_some ha).1, (aft_some ha).2, hau⟩
  refine ⟨List.pairwise_append.2 ⟨h.sort, h'.sort.imp_of_mem fun {i j} hi hj hl => ?_, fun i hi j hj => ?_⟩, fun i => ?_⟩
  · obtain ⟨a, ha, h1, h2⟩ := m' i hi
    obtain ⟨b, hb, h3, h4⟩ := m' j hj
    unfold ltT at hl ⊢
    rw [aft_at ha h1, aft_at hb h3] at hl
    rw [ha, hb]; exact hl
  · obtain ⟨a, ha, h1⟩ := (h.mem i).1 hi
    obtain ⟨b, hb, h3, h4⟩ := m' j hj
    refine Or.inl ?_
    rw [ha, hb]
    show a < b
    omega
  · rw [List.mem_append, h.mem, h'.mem]
    constructor
    · rintro (⟨a, h1, h2⟩ | ⟨a, h1, h2⟩)
      · exact ⟨a, h1, by omega⟩
      · exact ⟨a, (aft_some h1).1, h2⟩
    · rintro ⟨a, h1, h2⟩
      by_cases hh : a ≤ u
      · exact Or.inl ⟨a, h1, hh⟩
      · exact Or.inr ⟨a, aft_at h1 (by omega), h2⟩
/-- All of one time: by rising numbers. -/
theorem OffP.one (ok : ∀ i a, T i = some a → u ≤ a) (hs : o.Pairwise (· < ·)) (hm : ∀ i, i ∈ o ↔ T i = some u) : OffP T u o :=
  ⟨hs.imp_of_mem fun {i j} hi hj hl => Or.inr (by rw [(hm i).1 hi, (hm j).1 hj]; exact ⟨rfl, hl⟩), fun i => (hm i).trans ⟨fun h => ⟨u, h, Int.le_refl _⟩, fun ⟨a, h, hl⟩ => by
    have := ok i a h
    rw [h]; congr 1; omega⟩⟩
/-- .. none before the first. -/
theorem OffP.none (ok : ∀ i a, T i = some a → u < a) : OffP T u [] := ⟨.nil, fun i => ⟨fun h => (by cases h), fun ⟨a, h, hu⟩ => by have := ok i a h; omega⟩⟩
end
/-! ### places -/
section
variable {T T' : Int → Option Int} {now u a : Int} {i : Int} {s s' : Nat}
theorem spot_ex (h0 : 0 ≤ now) (h1 : now < a) (h2 : a < 4611686018427387904) : ∃ s, s < 704 ∧ SpS now a s := by
  obtain ⟨x, rfl⟩ := Int.eq_ofNat_of_zero_le (show 0 ≤ a by omega)
  obtain ⟨b, rfl⟩ := Int.eq_ofNat_of_zero_le h0
  have h := spot_of x b (by omega) (by omega) (by omega) rfl
  obtain ⟨l, hl⟩ : ∃ l, (Lib.bitLen (x ^^^ b) - 1) / 6 = l := ⟨_, rfl⟩
  rw [hl] at h
  obtain ⟨p, hp⟩ : ∃ p, x / 2 ^ (6 * l) = p := ⟨_, rfl⟩
  rw [hp] at h
  refine ⟨l * 64 + p % 64, by omega, ?_⟩
  unfold SpS
  rw [show (l * 64 + p % 64) / 64 = l by omega, show (l * 64 + p % 64) % 64 = p % 64 by omega]
  exact h.1
/-- Nothing lies ahead of place s. -/
def First (T : Int → Option Int) (now : Int) (s : Nat) : Prop := ∀ s', s' < s → ∀ i, MS T now s' i = none
theorem First.ge (hf : First T now s) (h : T i = some a) (hp : SpS now a s') : s ≤ s' := by
  apply Nat.le_of_not_lt
  intro hlt
  have := hf s' hlt i
  rw [MS_at hp h] at this
  cases this
theorem First.bg_le (ok : TOK now T) (hf : First T now s) (h : T i = some a) : bgS now s ≤ a := by
  obtain ⟨_, _, a0, a1⟩ := ok.t i a h
  obtain ⟨s', hs', hp⟩ := spot_ex ok.n0 a0 a1
  have hge := hf.ge h hp
  by_cases e : s = s'
  · subst e; exact hp.bg_le
  · have := hp.behind a0 (show s < s' by omega)
    have := lw_pos s
    omega
/-- As the time goes on to the first place's beginning, the others lie where they lay. -/
theorem First.spot (ok : TOK now T) (hf : First T now s) (h : T i = some a) (hn : ¬ SpS now a s) : SpS (bgS now s) a s' ↔ SpS now a s' := by
  obtain ⟨_, _, a0, a1⟩ := ok.t i a h
  obtain ⟨q, hq, hp⟩ := spot_ex ok.n0 a0 a1
  have hge := hf.ge h hp
  have hlt : s < q := by
    apply Nat.lt_of_le_of_ne hge
    rintro rfl
    exact hn hp
  have h2 := hp.stays a0 hlt bgS_pt1 (by have := lw_pos s; omega)
  constructor
  · intro h'; rw [SpS.one h' h2]; exact hp
  · intro h'; rw [SpS.one h' hp]; exact h2
theorem ms_no (h : T i = none) : MS T now s i = none := by unfold MS; rw [h]
theorem ms_so (h : T i = some a) : MS T now s i = if SpS now a s then some (.int .u64 a) else none := by unfold MS; rw [h]
theorem First.ms (ok : TOK now T) (hf : First T now s) (hT' : ∀ i, T' i = if (MS T now s i).isSome = true then none else T i) (j : Nat) : MS T' (bgS now s) j = if j = s then (fun _ => none) else MS T now j := by
  funext i
  have h1 := hT' i
  have hr : (if j = s then (fun _ => none) else MS T now j) i = if j = s then none else MS T now j i := by split <;> rfl
  rw [hr]
  cases hT : T i with
  | none =>
    rw [ms_no (show T' i = none by rw [h1, hT, ite_self]), ms_no hT, ite_self]
  | some a =>
    rw [ms_so hT] at h1 ⊢
    by_cases hs : SpS now a s
    · rw [if_pos hs] at h1
      rw [ms_no (show T' i = none from h1)]
      split
      · rfl
      · rename_i hj
        exact (if_neg fun h' => hj (SpS.one h' hs)).symm
    · rw [if_neg hs] at h1
      rw [ms_so (show T' i = some a by rw [h1, hT]; rfl)]
      by_cases hj : j = s
      · subst hj
        rw [if_pos rfl]
        exact if_neg fun h' => hs ((hf.spot ok hT hs).1 h')
      · rw [if_neg hj]
        by_cases h' : SpS now a j
        · rw [if_pos h', if_pos ((hf.spot ok hT hs).2 h')]
        · rw [if_neg h', if_neg fun h2 => h' ((hf.spot ok hT hs).1 h2)]
/-- As the time goes on to what is ahead of all, all lie where they lay. -/
theorem First.stay (ok : TOK now T) (hf : First T now s) (hex : ∃ i, (MS T now s i).isSome = true) (h1 : now ≤ u) (h2 : u < bgS now s) (j : Nat) : MS T u j = MS T now j := by
  obtain ⟨k, hk⟩ := hex
  obtain ⟨v, hv⟩ := Option.isSome_iff_exists.1 hk
  obtain ⟨b, hb, hbs, -⟩ := MS_inv hv
  have hpt := hbs.pt1 h1 (by have := hbs.bg_le; omega)
  funext i
  cases hT : T i with
  | none => rw [ms_no hT, ms_no hT]
  | some a =>
    rw [ms_so hT, ms_so hT]
    obtain ⟨_, _, a0, a1⟩ := ok.t i a hT
    obtain ⟨q, hq, hp⟩ := spot_ex ok.n0 a0 a1
    have hge := hf.ge hT hp
    have h3 : SpS u a q := by
      by_cases e : s = q
      · subst e; exact hp.stays0 h1 h2
      · exact hp.stays a0 (show s < q by omega) hpt (by have := lw_pos s; omega)
    by_cases h' : SpS now a j
    · rw [if_pos h', SpS.one h' hp, if_pos h3]
    · rw [if_neg h', if_neg fun h4 => h' (by rw [SpS.one h4 h3]; exact hp)]
theorem empty_stay (ok : TOK now T) (h : ∀ s', s' < 704 → ∀ i, MS T now s' i = none) (j : Nat) : MS T u j = MS T now j := by
  have hT : T = fun _ => none := by
    funext i
    cases hT : T i with
    | none => rfl
    | some a =>
      obtain ⟨_, _, a0, a1⟩ := ok.t i a hT
      obtain ⟨q, hq, hp⟩ := spot_ex ok.n0 a0 a1
      have := h q hq i
      rw [MS_at hp hT] at this; cases this
  subst hT; rfl
theorem empty_all (ok : TOK now T) (h : ∀ s', s' < 704 → ∀ i, MS T now s' i = none) (i : Int) : T i = none := by
  cases hT : T i with
  | none => rfl
  | some a =>
    obtain ⟨_, _, a0, a1⟩ := ok.t i a hT
    obtain ⟨q, hq, hp⟩ := spot_ex ok.n0 a0 a1
    have := h q hq i
    rw [MS_at hp hT] at this; cases this
end
end Go.Proofs.Ythdhfjcgboglfaa
