/- Layer 7: what is done with the buffer of a handle. -/
import Derived.Test.YtiaojhjghededaaPoolM
namespace Go.Proofs.Ytiaojhjghededaa
open Go.RowKit
set_option linter.unusedVariables false
set_option maxRecDepth 100000
set_option maxHeartbeats 800000
/-- Is a handle one of a buffer that isn't free? -/
def live (n : Nat) (st : Nat → Buf) (s g : Int) : Prop := (0 ≤ s ∧ s < n) ∧ (st s.toNat).owner ≠ 0 ∧ (st s.toNat).gen = g
instance (n : Nat) (st : Nat → Buf) (s g : Int) : Decidable (live n st s g) := by unfold live; infer_instance
theorem live_at {n : Nat} {st : Nat → Buf} {s g : Int} (h : live n st s g) : ∃ i : Nat, i < n ∧ s = (i : Int) ∧ (st i).owner ≠ 0 ∧ (st i).gen = g := by
  obtain ⟨⟨h1, h2⟩, h3, h4⟩ := h
  exact ⟨s.toNat, by omega, by omega, h3, h4⟩
section
variable {w0 w : World} {S0 : Nat → Prop} {N : List Res} {p bb off cap n : Nat} {bp : Nat → Nat} {st : Nat → Buf}
theorem with_stale (s : St w0 S0 w (PoolL p bb off cap bp n st ++ N)) (hn : n ≤ 800) (x g : Int) (h : ¬ live n st x g) (f : Value) :
    Calls Try.prog 32 #[.pointer (some ⟨p, 0, none⟩), .agg #[.int .i64 x, .int .u64 g], f] w fun e w' => e = .returned (.int .i64 3) ∧ Below w.heap.size w w' := by
  have c0 := pool_p s
  have s1 := s.box 40 #[.int .i64 x, .int .u64 g]
  rw [List.append_assoc] at s1
  have c1 := pool_p s1
  obtain ⟨hb0, hb1⟩ := (Blk.new w 40 #[.int .i64 x, .int .u64 g]).two
  by_cases h0 : 0 ≤ x
  · have d0 : decide (x < 0) = false := decide_eq_false (by omega)
    by_cases h1 : x < n
    · have d1 : decide ((n : Int) ≤ x) = false := decide_eq_false (by omega)
      obtain ⟨i, rfl⟩ := Int.eq_ofNat_of_zero_le h0
      have hi : i < n := by omega
      obtain ⟨e0, e1, e2, e3⟩ := pool_four s1 hi
      have i0 : (0 : Int) ≤ (i : Int) := by omega
      by_cases h2 : (st i).owner = 0
      · rw [h2] at e2
        have S1 := Lib.hid s1
        clear s1 s h c0 e3 e0
        go_enter Try.func32, Try.ntmps32
        go_wp2_with fail
        go_quiet (fail)
        go_wp2_with fail
        go_quiet (fail)
        go_wp2_with fail
        go_quiet (fail)
        go_wp2_with fail
        go_ret
        exact ⟨rfl, by simpa using below_drewN ((Below.refl w.heap.size w).alloc (Nat.le_refl _) _) _⟩
      · have h3 : (st i).gen ≠ g := fun e => h ⟨⟨h0, h1⟩, h2, e⟩
        have z2 : ((st i).owner == 0) = false := beq_eq_false_iff_ne.2 h2
        have z3 : ((st i).gen != g) = true := by simp [bne, h3]
        generalize (st i).owner = ow at *
        generalize (st i).gen = ge at *
        have S1 := Lib.hid s1
        clear s1 s h c0 e3 e0 h2 h3
        go_enter Try.func32, Try.ntmps32
        go_wp2_with fail
        go_quiet (fail)
        go_wp2_with fail
        go_quiet (fail)
        go_wp2_with fail
        go_quiet (fail)
        go_wp2_with fail
        go_ret
        exact ⟨rfl, by simpa using below_drewN ((Below.refl w.heap.size w).alloc (Nat.le_refl _) _) _⟩
    · have d1 : decide ((n : Int) ≤ x) = true := decide_eq_true (by omega)
      clear s1 s h c0
      go_enter Try.func32, Try.ntmps32
      go_wp2_with fail
      go_quiet (fail)
      go_wp2_with fail
      go_ret
      exact ⟨rfl, by simpa using below_drewN ((Below.refl w.heap.size w).alloc (Nat.le_refl _) _) _⟩
  · have d0 : decide (x < 0) = true := decide_eq_true (by omega)
    clear s1 s h c0 c1
    go_enter Try.func32, Try.ntmps32
    go_wp2_with fail
    go_quiet (fail)
    go_wp2_with fail
    go_ret
    exact ⟨rfl, by simpa using below_drewN ((Below.refl w.heap.size w).alloc (Nat.le_refl _) _) _⟩
theorem with_live (s : St w0 S0 w (PoolL p bb off cap bp n st ++ N)) (hn : n ≤ 800) {i : Nat} (hi : i < n) (ho : (st i).owner ≠ 0) {k : Nat} {caps : Array Value} {Q : Int → World → Prop} (hk : ∀ (xs : Array Value) (W : World), (callFunc k xs).run Try.prog W = .ok (.enter k xs) W)
    (HC : ∀ W hb, Below w.heap.size w W → St w0 S0 W (PoolL p bb off cap bp n st ++ (N ++ [BlkR hb 40 #[.int .i64 i, .int .u64 (st i).gen]])) → Calls Try.prog k (#[.pointer (some ⟨bb, off + i * 4, none⟩)] ++ caps) W fun e w' => ∃ c, e = .returned (.int .i64 c) ∧ Q c w') :
    Calls Try.prog 32 #[.pointer (some ⟨p, 0, none⟩), .agg #[.int .i64 i, .int .u64 (st i).gen], .func (Fn.func k) #[] caps] w fun e w' => ∃ c, e = .returned (.int .i64 c) ∧ Q c w' := by
  have s1 := s.box 40 #[.int .i64 i, .int .u64 (st i).gen]
  rw [List.append_assoc] at s1
  have c1 := pool_p s1
  obtain ⟨hb0, hb1⟩ := (Blk.new w 40 #[.int .i64 i, .int .u64 (st i).gen]).two
  have d0 : decide ((i : Int) < 0) = false := decide_eq_false (by omega)
  have d1 : decide ((n : Int) ≤ (i : Int)) = false := decide_eq_false (by omega)
  obtain ⟨e0, e1, e2, e3⟩ := pool_four s1 hi
  have i0 : (0 : Int) ≤ (i : Int) := by omega
  have i1 : (i : Int) < (n : Int) := by omega
  have z2 : ((st i).owner == 0) = false := beq_eq_false_iff_ne.2 ho
  have z3 : ((st i).gen != (st i).gen) = false := by simp [bne]
  have S1 := Lib.hid s1
  have H := Lib.hid HC
  clear s1 s HC e0 e3
  generalize (st i).owner = ow at *
  generalize hge : (st i).gen = ge at *
  clear ho hge
  go_enter Try.func32, Try.ntmps32
  go_wp2_with fail
  go_quiet (fail)
  go_wp2_with fail
  go_quiet (fail)
  go_wp2_with fail
  go_quiet (fail)
  go_wp2_with fail
  refine (H.out _ _ (below_drewN ((Below.refl _ _).alloc (Nat.le_refl _) _) _) (S1.out.drewN _)).mono ?_
  rintro e w' ⟨c, rfl, hq⟩
  go_wp2_with fail
  go_ret
  exact ⟨c, rfl, hq⟩
end
end Go.Proofs.Ytiaojhjghededaa
