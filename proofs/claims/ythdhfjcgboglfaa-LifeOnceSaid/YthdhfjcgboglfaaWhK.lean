/- Layer 4: a wheel by itself, as its users see it. -/
import Derived.Test.YthdhfjcgboglfaaWhJ
namespace Go.Proofs.Ythdhfjcgboglfaa
open Go.RowKit
set_option linter.unusedVariables false
set_option maxRecDepth 100000
set_option maxHeartbeats 2000000
/-- A wheel, its timers, and X. -/
def Wk (w0 : World) (S0 : Nat → Prop) (c bw : Nat) (now : Int) (T : Int → Option Int) (X : List Res) (w : World) : Prop := TOK now T ∧ ∃ mb, St w0 S0 w (WL 704 c bw now mb T T X)
section
variable {w0 w w' : World} {S0 S : Nat → Prop} {L X : List Res} {c bw n : Nat} {now at' id u : Int} {T : Int → Option Int}
theorem tok_none : TOK 0 (fun _ => none) := ⟨by omega, by omega, fun i a h => by cases h⟩
theorem New_k (H : St w0 S0 w X) : Calls Try.prog 22 #[] w fun e w' => ∃ c bw, e = .returned (.pointer (some ⟨c, 0, none⟩)) ∧ Wk w0 S0 c bw 0 (fun _ => none) X w' :=
  (New_o H).mono fun e w' ⟨c, bw, he, s⟩ => ⟨c, bw, he, tok_none, _, s⟩
theorem Set_k (H : Wk w0 S0 c bw now T X w) (ha : 0 ≤ at') : Calls Try.prog 27 #[.pointer (some ⟨c, 0, none⟩), .int .i64 id, .int .u64 at'] w fun e w' => e = .returned (.int .i64 (setA now id at')) ∧ Wk w0 S0 c bw now (setT now T id at') X w' := by
  obtain ⟨ok, mb, s⟩ := H
  exact (Set_c s ok ha).mono fun e w' ⟨he, mb', s'⟩ => ⟨he, setT_ok ok id at', mb', s'⟩
theorem Cancel_k (H : Wk w0 S0 c bw now T X w) (hi : wfI id) : Calls Try.prog 34 #[.pointer (some ⟨c, 0, none⟩), .int .i64 id] w fun e w' => e = .returned (.int .i64 (if (T id).isSome = true then 0 else 6)) ∧ Wk w0 S0 c bw now (updT T id none) X w' := by
  obtain ⟨ok, mb, s⟩ := H
  exact (Cancel_c s ok hi).mono fun e w' ⟨he, s'⟩ => ⟨he, ok.del id, mb, s'⟩
theorem Now_k (H : Wk w0 S0 c bw now T X w) : Calls Try.prog 25 #[.pointer (some ⟨c, 0, none⟩)] w fun e w' => e = .returned (.int .u64 now) ∧ Wk w0 S0 c bw now T X w' := by
  obtain ⟨ok, mb, s⟩ := H
  exact (Now_c s).mono fun e w' ⟨he, s'⟩ => ⟨he, ok, mb, s'⟩
theorem Go_k (H : Wk w0 S0 c bw now T X w) (hu : 0 ≤ u) : Calls Try.prog 31 #[.pointer (some ⟨c, 0, none⟩), .int .u64 u] w fun e w' => ∃ A n cap o, e = .returned (.tuple #[.slice A n cap, .int .i64 (goA now u)]) ∧ GoP now T u o ∧ o.length = n ∧ n ≤ 1000 ∧
      Wk w0 S0 c bw (goN now u) (goT now T u) (X ++ [LisR 3 1 (.slice A n cap) n (iv o)]) w' := by
  obtain ⟨ok, mb, s⟩ := H
  exact (Go_c s ok hu).mono fun e w' ⟨A, n, cap, o, mb', he, hp, hn, s'⟩ => ⟨A, n, cap, o, he, hp, hn, by rw [← hn]; exact hp.len ok, goT_ok ok, mb', s'⟩
theorem Wk.drew (H : Wk w0 S0 c bw now T X w) : Wk w0 S0 c bw now T X w.drew := ⟨H.1, H.2.imp fun mb s => s.drewN 1⟩
theorem Wk.below (H : Wk w0 None c bw now T X w) : Below w0.heap.size w0 w := by obtain ⟨_, mb, s⟩ := H; exact s.below
/-- A list among the rest. -/
theorem Wk.list (H : Wk w0 S0 c bw now T X w) {k : Nat} {A : Option Addr} {cap : Nat} {o : List Int} (hx : X[k]? = some (LisR 3 1 (.slice A n cap) n (iv o))) (hn : o.length = n) (h0 : 0 < n) :
    ∃ g off, A = some ⟨g, off, none⟩ ∧ ∀ j x, o[j]? = some x → w.cell? ⟨g, off + j, none⟩ = some (.int .i64 x) := by
  obtain ⟨_, mb, s⟩ := H
  obtain ⟨A', cap', hA, -, -, -, hc⟩ := s.lis_cells _ (wl_x hx)
  injection hA with hA1
  subst hA1
  obtain ⟨g, off, hg, hc⟩ := hc.resolve_left (by omega)
  exact ⟨g, off, hg, fun j x hj => hc j _ (iv_get hj)⟩
/-- What lies beside is dropped. -/
theorem Wk.forget (H : Wk w0 S0 c bw now T (X ++ L) w) : Wk w0 S0 c bw now T X w := by
  obtain ⟨ok, mb, s⟩ := H
  refine ⟨ok, mb, ?_⟩
  have h := s.take (WL 704 c bw now mb T T X).length
  rw [← wl_app, List.take_left] at h
  exact h
theorem offP_one {i0 a0 : Int} (h0 : T i0 = some a0) (hu : a0 ≤ u) (ho : ∀ i a, i ≠ i0 → T i = some a → u < a) : OffP T u [i0] :=
  ⟨List.pairwise_singleton _ _, fun i => by
    rw [List.mem_singleton]
    constructor
    · rintro rfl; exact ⟨a0, h0, hu⟩
    · rintro ⟨a, h1, h2⟩
      apply Classical.byContradiction
      intro hne
      have := ho i a hne h1
      omega⟩
end
/-- Two timers. -/
def T12 (a b : Int) : Int → Option Int := updT (updT (fun _ => none) 1 (some a)) 2 (some b)
theorem t12_1 (a b : Int) : T12 a b 1 = some a := by unfold T12 updT; simp
theorem t12_2 (a b : Int) : T12 a b 2 = some b := by unfold T12 updT; simp
theorem t12_o {a b i x : Int} (h : T12 a b i = some x) : (i = 1 ∧ x = a) ∨ (i = 2 ∧ x = b) := by
  unfold T12 updT at h
  split at h
  · injection h with h; exact Or.inr ⟨by assumption, h.symm⟩
  · split at h
    · injection h with h; exact Or.inl ⟨by assumption, h.symm⟩
    · cases h
end Go.Proofs.Ythdhfjcgboglfaa
