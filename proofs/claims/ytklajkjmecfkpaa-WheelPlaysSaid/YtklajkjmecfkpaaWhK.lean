/- Layer 4: a wheel by itself, as its users see it. -/
import Derived.Test.YtklajkjmecfkpaaWhJ
namespace Go.Proofs.Ytklajkjmecfkpaa
open Go.RowKit
set_option linter.unusedVariables false
set_option maxRecDepth 100000
set_option maxHeartbeats 2000000
/-- A wheel, its timers, and X. -/
def Wk (w0 : World) (S0 : Nat → Prop) (c bw : Nat) (now : Int) (T : Int → Option Int) (X : List Res) (w : World) : Prop := TOK now T ∧ ∃ mb, St w0 S0 w (WL 704 c bw now mb T T X)
section
variable {w0 w w' : World} {S0 S : Nat → Prop} {L X : List Res} {c bw n : Nat} {now at' id u : Int} {T : Int → Option Int}
theorem tok_none : TOK 0 (fun _ => none) := ⟨by omega, by omega, fun i a h => by cases h⟩
theorem New_k (H : St w0 S0 w X) : Calls Try.prog 9 #[] w fun e w' => ∃ c bw, e = .returned (.pointer (some ⟨c, 0, none⟩)) ∧ Wk w0 S0 c bw 0 (fun _ => none) X w' :=
  (New_o H).mono fun e w' ⟨c, bw, he, s⟩ => ⟨c, bw, he, tok_none, _, s⟩
theorem Set_k (H : Wk w0 S0 c bw now T X w) (ha : 0 ≤ at') : Calls Try.prog 10 #[.pointer (some ⟨c, 0, none⟩), .int .i64 id, .int .u64 at'] w fun e w' => e = .returned (.int .i64 (setA now id at')) ∧ Wk w0 S0 c bw now (setT now T id at') X w' := by
  obtain ⟨ok, mb, s⟩ := H
  exact (Set_c s ok ha).mono fun e w' ⟨he, mb', s'⟩ => ⟨he, setT_ok ok id at', mb', s'⟩
theorem Cancel_k (H : Wk w0 S0 c bw now T X w) (hi : wfI id) : Calls Try.prog 12 #[.pointer (some ⟨c, 0, none⟩), .int .i64 id] w fun e w' => e = .returned (.int .i64 (if (T id).isSome = true then 0 else 6)) ∧ Wk w0 S0 c bw now (updT T id none) X w' := by
  obtain ⟨ok, mb, s⟩ := H
  exact (Cancel_c s ok hi).mono fun e w' ⟨he, s'⟩ => ⟨he, ok.del id, mb, s'⟩
theorem At_k (H : Wk w0 S0 c bw now T X w) (hi : wfI id) : Calls Try.prog 17 #[.pointer (some ⟨c, 0, none⟩), .int .i64 id] w fun e w' => e = .returned (.tuple #[.int .u64 ((T id).getD 0), .int .i64 (if (T id).isSome = true then 0 else 6)]) ∧ Wk w0 S0 c bw now T X w' := by
  obtain ⟨ok, mb, s⟩ := H
  exact (At_c s hi).mono fun e w' ⟨he, s'⟩ => ⟨he, ok, mb, s'⟩
theorem Now_k (H : Wk w0 S0 c bw now T X w) : Calls Try.prog 19 #[.pointer (some ⟨c, 0, none⟩)] w fun e w' => e = .returned (.int .u64 now) ∧ Wk w0 S0 c bw now T X w' := by
  obtain ⟨ok, mb, s⟩ := H
  exact (Now_c s).mono fun e w' ⟨he, s'⟩ => ⟨he, ok, mb, s'⟩
theorem Len_k (H : Wk w0 S0 c bw now T X w) : Calls Try.prog 20 #[.pointer (some ⟨c, 0, none⟩)] w fun e w' => e = .returned (.int .i64 (cnt T)) ∧ Wk w0 S0 c bw now T X w' := by
  obtain ⟨ok, mb, s⟩ := H
  exact (Len_c s).mono fun e w' ⟨he, s'⟩ => ⟨he, ok, mb, s'⟩
theorem Go_k (H : Wk w0 S0 c bw now T X w) (hu : 0 ≤ u) : Calls Try.prog 14 #[.pointer (some ⟨c, 0, none⟩), .int .u64 u] w fun e w' => ∃ A n cap o, e = .returned (.tuple #[.slice A n cap, .int .i64 (goA now u)]) ∧ GoP now T u o ∧ o.length = n ∧ n ≤ 1000 ∧
      Wk w0 S0 c bw (goN now u) (goT now T u) (X ++ [LisR 3 1 (.slice A n cap) n (iv o)]) w' := by
  obtain ⟨ok, mb, s⟩ := H
  exact (Go_c s ok hu).mono fun e w' ⟨A, n, cap, o, mb', he, hp, hn, s'⟩ => ⟨A, n, cap, o, he, hp, hn, by rw [← hn]; exact hp.len ok, goT_ok ok, mb', s'⟩
theorem Wk.drew (H : Wk w0 S0 c bw now T X w) : Wk w0 S0 c bw now T X w.drew := ⟨H.1, H.2.imp fun mb s => s.drewN 1⟩
theorem Wk.below (H : Wk w0 None c bw now T X w) : Below w0.heap.size w0 w := by obtain ⟨_, mb, s⟩ := H; exact s.below
/-- A list among the rest. -/
theorem Wk.list (H : Wk w0 S0 c bw now T X w) {k : Nat} {A : Option Addr} {cap : Nat} {o : List Int} (hx : X[k]? = some (LisR 3 1 (.slice A n cap) n (iv o))) (hn : o.length = n) (h0 : 0 < n) :
    ∃ g off, A = some ⟨g, off, none⟩ ∧ ∀ j x, o[j]? = some x → w.cell? ⟨g, off + j, none⟩ = some (.int .i64 x) := by
  obtain ⟨_, mb, s⟩ := H
  obtain ⟨A', cap', hA, -, -, -, hc⟩ := s.lis_cells _ (wl_x hx)
  injection hA with hA1
  subst hA1
  obtain ⟨g, off, hg, hc⟩ := hc.resolve_left (by omega)
  exact ⟨g, off, hg, fun j x hj => hc j _ (iv_get hj)⟩
/-- What lies beside is dropped. -/
theorem Wk.forget (H : Wk w0 S0 c bw now T (X ++ L) w) : Wk w0 S0 c bw now T X w := by
  obtain ⟨ok, mb, s⟩ := H
  refine ⟨ok, mb, ?_⟩
  have h := s.take (WL 704 c bw now mb T T X).length
  rw [← wl_app, List.take_left] at h
  exact h
theorem offP_one {i0 a0 : Int} (h0 : T i0 = some a0) (hu : a0 ≤ u) (ho : ∀ i a, i ≠ i0 → T i = some a → u < a) : OffP T u [i0] :=
  ⟨List.pairwise_singleton _ _, fun i => by
    rw [List.mem_singleton]
    constructor
    · rintro rfl; exact ⟨a0, h0, hu⟩
    · rintro ⟨a, h1, h2⟩
      apply Classical.byContradiction
      intro hne
      have := ho i a hne h1
      omega⟩
end
/-- Two timers. -/
def T12 (a b : Int) : Int → Option Int := updT (updT (fun _ => none) 1 (some a)) 2 (some b)
theorem t12_1 (a b : Int) : T12 a b 1 = some a := by unfold T12 updT; simp
theorem t12_2 (a b : Int) : T12 a b 2 = some b := by unfold T12 updT; simp
theorem t12_o {a b i x : Int} (h : T12 a b i = some x) : (i = 1 ∧ x = a) ∨ (i = 2 ∧ x = b) := by
  unfold T12 updT at h
  split at h
  · injection h with h; exact Or.inr ⟨by assumption, h.symm⟩
  · split at h
    · injection h with h; exact Or.inl ⟨by assumption, h.symm⟩
    · cases h
theorem awake_c (w : World) : Calls Try.prog 8 #[] w fun e w' => e = .returned (.bool true) ∧ Below w.heap.size w w' := by
  have E1 := Lib.hid (show setA 0 1 70 = 0 ∧ setT 0 (fun _ => none) 1 70 = updT (fun _ => none) 1 (some 70) from ⟨rfl, rfl⟩)
  have E2 := Lib.hid (show setA 0 2 5 = 0 ∧ setT 0 (updT (fun _ => none) 1 (some 70)) 2 5 = T12 70 5 from ⟨rfl, rfl⟩)
  have E3 := Lib.hid (show goA 0 5 = 0 ∧ goN 0 5 = 5 ∧ goT 0 (T12 70 5) 5 = aft (T12 70 5) 5 from ⟨rfl, rfl, rfl⟩)
  have G1 := Lib.hid (show GoP 0 (T12 70 5) 5 [2] from offP_one (t12_2 70 5) (Int.le_refl _) fun i a hi h => by rcases t12_o h with ⟨_, rfl⟩ | ⟨h, _⟩; decide; exact absurd h hi)
  have E4 := Lib.hid (show goA 5 100 = 0 ∧ goN 5 100 = 100 ∧ goT 5 (aft (T12 70 5) 5) 100 = aft (aft (T12 70 5) 5) 100 from ⟨rfl, rfl, rfl⟩)
  have G2 := Lib.hid (show GoP 5 (aft (T12 70 5) 5) 100 [1] from offP_one (aft_at (t12_1 70 5) (by decide)) (by decide) fun i a hi h => by
    obtain ⟨h, h5⟩ := aft_some h
    rcases t12_o h with ⟨h, _⟩ | ⟨_, rfl⟩
    · exact absurd h hi
    · omega)
  go_enter Try.func8, Try.ntmps8
  go_wp2_with fail
  refine (New_k (St.begin w)).mono ?_
  rintro e w1 ⟨c, bw, rfl, k1⟩
  have K1 := Lib.hid k1
  clear k1
  go_wp2_with fail
  refine (Set_k K1.out (by omega)).mono ?_
  rintro e w2 ⟨rfl, k2⟩
  rw [E1.out.2] at k2
  rw [E1.out.1]
  have K2 := Lib.hid k2
  clear k2 K1 E1
  go_wp2_with fail
  refine (Set_k K2.out (by omega)).mono ?_
  rintro e w3 ⟨rfl, k3⟩
  rw [E2.out.2] at k3
  rw [E2.out.1]
  have K3 := Lib.hid k3
  clear k3 K2 E2
  go_wp2_with fail
  refine (Go_k K3.out (by omega)).mono ?_
  rintro e w4 ⟨A4, n4, c4, o4, rfl, g4, hn4, -, k4⟩
  obtain rfl := g4.uniq G1.out
  obtain rfl : 1 = n4 := hn4
  rw [E3.out.2.1, E3.out.2.2] at k4
  rw [E3.out.1]
  have K4 := Lib.hid k4
  clear k4 K3 E3 g4 G1
  go_wp2_with fail
  refine (Go_k K4.out (by omega)).mono ?_
  rintro e w5 ⟨A5, n5, c5, o5, rfl, g5, hn5, -, k5⟩
  obtain rfl := g5.uniq G2.out
  obtain rfl : 1 = n5 := hn5
  rw [E4.out.2.1, E4.out.2.2] at k5
  rw [E4.out.1]
  obtain ⟨a4, b4, rfl, c4a⟩ := k5.list (k := 0) rfl rfl (by omega)
  obtain ⟨a5, b5, rfl, c5a⟩ := k5.list (k := 1) rfl rfl (by omega)
  have q4 := c4a 0 2 rfl
  have q5 := c5a 0 1 rfl
  rw [Nat.add_zero] at q4 q5
  have K5 := Lib.hid k5
  clear k5 K4 E4 g5 G2 c4a c5a
  go_wp2_with fail
  refine (Set_k K5.out (by omega)).mono ?_
  rintro e w6 ⟨rfl, k6⟩
  rw [show setA 100 1 100 = 1 from rfl]
  have K6 := Lib.hid (show Wk w None c bw 100 (aft (aft (T12 70 5) 5) 100) _ w6 from k6)
  clear k6 K5 q4 q5
  go_wp2_with fail
  refine (Set_k K6.out (by omega)).mono ?_
  rintro e w7 ⟨rfl, k7⟩
  rw [show setA 100 1 4611686018427387904 = 2 from rfl]
  have K7 := Lib.hid (show Wk w None c bw 100 (aft (aft (T12 70 5) 5) 100) _ w7 from k7)
  clear k7 K6
  go_wp2_with fail
  refine (Now_k K7.out).mono ?_
  rintro e w8 ⟨rfl, k8⟩
  have B8 := Lib.hid k8.below
  clear k8 K7
  go_wp2_with fail
  go_ret
  exact ⟨rfl, B8.out⟩
end Go.Proofs.Ytklajkjmecfkpaa
