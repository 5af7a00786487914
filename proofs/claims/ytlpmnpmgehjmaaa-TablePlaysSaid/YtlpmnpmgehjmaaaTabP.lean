/- Layer 2: each call's answer, whatever the table holds. -/
import Derived.Test.YtlpmnpmgehjmaaaTabA
namespace Go.Proofs.Ytlpmnpmgehjmaaa
open Go.RowKit
set_option linter.unusedVariables false
/-- The least free slot, or n. -/
def ff (st : Nat → Option Int) : Nat → Nat
  | 0 => 0
  | k + 1 => if ff st k < k then ff st k else if (st k).isSome then k + 1 else k
theorem ff_le (st : Nat → Option Int) (n : Nat) : ff st n ≤ n := by
  induction n with
  | zero => exact Nat.le_refl _
  | succ k ih => unfold ff; split <;> (try split) <;> omega
theorem ff_used (st : Nat → Option Int) (n j : Nat) (h : j < ff st n) : ∃ v, st j = some v := by
  induction n with
  | zero => exact absurd h (Nat.not_lt_zero _)
  | succ k ih =>
    unfold ff at h
    have hl := ff_le st k
    split at h
    · exact ih h
    · split at h
      · by_cases e : j = k
        · subst e; exact Option.isSome_iff_exists.1 (by assumption)
        · exact ih (by omega)
      · exact ih (by omega)
theorem ff_free (st : Nat → Option Int) (n : Nat) (h : ff st n < n) : st (ff st n) = none := by
  induction n with
  | zero => exact absurd h (Nat.not_lt_zero _)
  | succ k ih =>
    unfold ff at h ⊢
    split
    · exact ih (by assumption)
    · rename_i h1
      rw [if_neg h1] at h
      split
      · rename_i h2; rw [if_pos h2] at h; omega
      · rename_i h2; simpa using h2
/-- A value is put. -/
def PutR (n : Nat) (gen : Nat → Int) (st : Nat → Option Int) (x s c f : Int) (st' : Nat → Option Int) : Prop :=
  (∃ i : Nat, i < n ∧ (∀ j, j < i → ∃ v, st j = some v) ∧ st i = none ∧ s = i ∧ c = gen i ∧ f = 0 ∧ st' = fun j => if j = i then some x else st j) ∨
  ((∀ i, i < n → ∃ v, st i = some v) ∧ s = 0 ∧ c = 0 ∧ f = 4 ∧ st' = st)
theorem putR_ex (n : Nat) (gen : Nat → Int) (st : Nat → Option Int) (x : Int) : ∃ s c f st', PutR n gen st x s c f st' := by
  by_cases h : ff st n < n
  · exact ⟨_, _, _, _, Or.inl ⟨ff st n, h, fun j hj => ff_used st n j hj, ff_free st n h, rfl, rfl, rfl, rfl⟩⟩
  · exact ⟨_, _, _, _, Or.inr ⟨fun i hi => ff_used st n i (by omega), rfl, rfl, rfl, rfl⟩⟩
theorem Put_r (t g n : Nat) (gen : Nat → Int) (st : Nat → Option Int) (x s c f : Int) (st' : Nat → Option Int) (w : World) (h : Tb w t g n gen st) (hn : n ≤ 1000) (hR : PutR n gen st x s c f st') :
    Calls Try.prog 13 #[.pointer (some ⟨t, 0, none⟩), .int .i64 x] w fun e w' => e = .returned (.tuple #[.agg #[.int .i64 s, .int .u64 c], .int .i64 f]) ∧ Tb w' t g n gen st' ∧ Only g w w' := by
  rcases hR with ⟨i, hi, hs, hf, rfl, rfl, rfl, rfl⟩ | ⟨hs, rfl, rfl, rfl, rfl⟩
  · exact Put_at t g n gen st x i w h hn hi hs hf
  · exact (Put_full t g n gen st' x w h hn hs).mono fun _ _ ⟨he, hb⟩ => ⟨he, h.stay hb, Only.of_below hb g⟩
/-- A handle of something that is there, or stale. -/
theorem live_or (n : Nat) (gen : Nat → Int) (st : Nat → Option Int) (s c : Int) : (∃ (i : Nat) (v : Int), i < n ∧ s = i ∧ c = gen i ∧ st i = some v) ∨ Stale n gen st s c := by
  by_cases h0 : s < 0
  · exact Or.inr (Or.inl h0)
  · by_cases h1 : (n : Int) ≤ s
    · exact Or.inr (Or.inr (Or.inl h1))
    · cases h2 : st s.toNat with
      | none => exact Or.inr (Or.inr (Or.inr (Or.inl h2)))
      | some v =>
        by_cases h3 : gen s.toNat = c
        · exact Or.inl ⟨s.toNat, v, by omega, by omega, h3.symm, h2⟩
        · exact Or.inr (Or.inr (Or.inr (Or.inr h3)))
def GetR (n : Nat) (gen : Nat → Int) (st : Nat → Option Int) (s c v f : Int) : Prop :=
  (∃ i : Nat, i < n ∧ s = i ∧ c = gen i ∧ st i = some v ∧ f = 0) ∨ (Stale n gen st s c ∧ v = 0 ∧ f = 3)
def SetR (n : Nat) (gen : Nat → Int) (st : Nat → Option Int) (s c x f : Int) (st' : Nat → Option Int) : Prop :=
  (∃ (i : Nat) (v : Int), i < n ∧ s = i ∧ c = gen i ∧ st i = some v ∧ f = 0 ∧ st' = fun j => if j = i then some x else st j) ∨ (Stale n gen st s c ∧ f = 3 ∧ st' = st)
def DropR (n : Nat) (gen : Nat → Int) (st : Nat → Option Int) (s c v f : Int) (gen' : Nat → Int) (st' : Nat → Option Int) : Prop :=
  (∃ i : Nat, i < n ∧ s = i ∧ c = gen i ∧ st i = some v ∧ f = 0 ∧ (gen' = fun j => if j = i then gen i + 1 else gen j) ∧ st' = fun j => if j = i then none else st j) ∨
  (Stale n gen st s c ∧ v = 0 ∧ f = 3 ∧ gen' = gen ∧ st' = st)
theorem getR_ex (n : Nat) (gen : Nat → Int) (st : Nat → Option Int) (s c : Int) : ∃ v f, GetR n gen st s c v f := by
  rcases live_or n gen st s c with ⟨i, v, h1, h2, h3, h4⟩ | h
  · exact ⟨v, 0, Or.inl ⟨i, h1, h2, h3, h4, rfl⟩⟩
  · exact ⟨0, 3, Or.inr ⟨h, rfl, rfl⟩⟩
theorem setR_ex (n : Nat) (gen : Nat → Int) (st : Nat → Option Int) (s c x : Int) : ∃ f st', SetR n gen st s c x f st' := by
  rcases live_or n gen st s c with ⟨i, v, h1, h2, h3, h4⟩ | h
  · exact ⟨0, _, Or.inl ⟨i, v, h1, h2, h3, h4, rfl, rfl⟩⟩
  · exact ⟨3, st, Or.inr ⟨h, rfl, rfl⟩⟩
theorem dropR_ex (n : Nat) (gen : Nat → Int) (st : Nat → Option Int) (s c : Int) : ∃ v f gen' st', DropR n gen st s c v f gen' st' := by
  rcases live_or n gen st s c with ⟨i, v, h1, h2, h3, h4⟩ | h
  · exact ⟨v, 0, _, _, Or.inl ⟨i, h1, h2, h3, h4, rfl, rfl, rfl⟩⟩
  · exact ⟨0, 3, gen, st, Or.inr ⟨h, rfl, rfl, rfl, rfl⟩⟩
section
variable {n : Nat} {gen gen' : Nat → Int} {st st' : Nat → Option Int} {s c v f x : Int}
theorem Get_r (t g : Nat) (w : World) (h : Tb w t g n gen st) (hn : n ≤ 1000) (hR : GetR n gen st s c v f) :
    Calls Try.prog 15 #[.pointer (some ⟨t, 0, none⟩), .agg #[.int .i64 s, .int .u64 c]] w fun e w' => e = .returned (.tuple #[.int .i64 v, .int .i64 f]) ∧ Below w.heap.size w w' := by
  rcases hR with ⟨i, hi, rfl, rfl, hs, rfl⟩ | ⟨hs, rfl, rfl⟩
  · exact Get_ok t g n gen st i v w h hi hn hs
  · exact Get_stale t g n gen st s c w h hn hs
theorem Set_r (t g : Nat) (w : World) (h : Tb w t g n gen st) (hn : n ≤ 1000) (hR : SetR n gen st s c x f st') :
    Calls Try.prog 17 #[.pointer (some ⟨t, 0, none⟩), .agg #[.int .i64 s, .int .u64 c], .int .i64 x] w fun e w' => e = .returned (.int .i64 f) ∧ Tb w' t g n gen st' ∧ Only g w w' := by
  rcases hR with ⟨i, v, hi, rfl, rfl, hs, rfl, rfl⟩ | ⟨hs, rfl, rfl⟩
  · exact Set_ok t g n gen st i v x w h hi hn hs
  · exact (Set_stale t g n gen st' s c x w h hn hs).mono fun _ _ ⟨he, hb⟩ => ⟨he, h.stay hb, Only.of_below hb g⟩
theorem Drop_r (t g : Nat) (w : World) (h : Tb w t g n gen st) (hn : n ≤ 1000) (hg : ∀ i, i < n → 0 ≤ gen i ∧ gen i < 18446744073709551615) (hR : DropR n gen st s c v f gen' st') :
    Calls Try.prog 19 #[.pointer (some ⟨t, 0, none⟩), .agg #[.int .i64 s, .int .u64 c]] w fun e w' => e = .returned (.tuple #[.int .i64 v, .int .i64 f]) ∧ Tb w' t g n gen' st' ∧ Only g w w' := by
  rcases hR with ⟨i, hi, rfl, rfl, hs, rfl, rfl, rfl⟩ | ⟨hs, rfl, rfl, rfl, rfl⟩
  · exact Drop_ok t g n gen st i v w h hi hn hs (hg i hi)
  · exact (Drop_stale t g n gen' st' s c w h hn hs).mono fun _ _ ⟨he, hb⟩ => ⟨he, h.stay hb, Only.of_below hb g⟩
/-- The generations stay within bounds: each is at least what it was, at most one more. -/
theorem DropR.gens (hR : DropR n gen st s c v f gen' st') (i : Nat) : gen' i = gen i ∨ gen' i = gen i + 1 := by
  rcases hR with ⟨j, _, _, _, _, _, rfl, _⟩ | ⟨_, _, _, rfl, _⟩
  · by_cases e : i = j
    · subst e; right; simp
    · left; simp [e]
  · exact Or.inl rfl
end
theorem Tb.only {w w' : World} {t g n b : Nat} {gen : Nat → Int} {st : Nat → Option Int} (h : Tb w t g n gen st) (ho : Only b w w') (h1 : t ≠ b) (h2 : g ≠ b) : Tb w' t g n gen st := by
  obtain ⟨arr, hg, hs, ha⟩ := h.row
  exact ⟨h.ne, ho.blk h.blk h1, arr, ho.blk hg h2, hs, ha⟩
theorem Tb.glt {w : World} {t g n : Nat} {gen : Nat → Int} {st : Nat → Option Int} (h : Tb w t g n gen st) : g < w.heap.size := by
  obtain ⟨arr, hb, _⟩ := h.row; exact hb.lt
end Go.Proofs.Ytlpmnpmgehjmaaa
