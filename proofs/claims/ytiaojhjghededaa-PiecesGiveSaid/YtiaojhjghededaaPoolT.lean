/- Layer 7: the calls that share, drop, give and tell. -/
import Derived.Test.YtiaojhjghededaaPoolS
import Derived.Deep.RegionLaw
import Derived.Deep.RegionWith
import Derived.Deep.RegionHeld3
namespace Go.Proofs.Ytiaojhjghededaa
open Go.RowKit
set_option linter.unusedVariables false
set_option maxRecDepth 100000
set_option maxHeartbeats 800000
/-- By a handle: stale, or what is done with its buffer. -/
def Via (n : Nat) (st : Nat → Buf) (x g : Int) (B : Buf → Int → Buf → Prop) (c : Int) (st' : Nat → Buf) : Prop :=
  (¬ live n st x g ∧ c = 3 ∧ st' = st) ∨ ∃ (i : Nat) (b' : Buf), i < n ∧ x = (i : Int) ∧ (st i).owner ≠ 0 ∧ (st i).gen = g ∧ B (st i) c b' ∧ st' = updB st i b'
theorem via_ex {n : Nat} {st : Nat → Buf} {x g : Int} {B : Buf → Int → Buf → Prop} (h : ∀ b, ∃ c b', B b c b') : ∃ c st', Via n st x g B c st' := by
  by_cases hl : live n st x g
  · obtain ⟨i, h1, h2, h3, h4⟩ := live_at hl
    obtain ⟨c, b', hb⟩ := h (st i)
    exact ⟨c, _, Or.inr ⟨i, b', h1, h2, h3, h4, hb, rfl⟩⟩
  · exact ⟨3, st, Or.inl ⟨hl, rfl, rfl⟩⟩
def who (x : Int) : Prop := 1 ≤ x ∧ x ≤ 3
instance (x : Int) : Decidable (who x) := by unfold who; infer_instance
def GiveB (a z : Int) (b : Buf) (c : Int) (b' : Buf) : Prop :=
  (¬ (who a ∧ who z ∧ a ≠ z) ∧ c = 1 ∧ b' = b) ∨ ((who a ∧ who z ∧ a ≠ z) ∧ b.owner ≠ a ∧ c = 8 ∧ b' = b) ∨ ((who a ∧ who z ∧ a ≠ z) ∧ b.owner = a ∧ c = 0 ∧ b' = { b with owner := z })
theorem give_b (a z : Int) (b : Buf) : ∃ c b', GiveB a z b c b' := by
  by_cases h : who a ∧ who z ∧ a ≠ z
  · by_cases h2 : b.owner = a
    · exact ⟨_, _, Or.inr (Or.inr ⟨h, h2, rfl, rfl⟩)⟩
    · exact ⟨_, _, Or.inr (Or.inl ⟨h, h2, rfl, rfl⟩)⟩
  · exact ⟨_, _, Or.inl ⟨h, rfl, rfl⟩⟩
theorem owns_yes (x : Int) (w : World) (h : who x) : Calls Try.prog 39 #[.int .i64 x] w fun e w' => e = .returned (.bool true) ∧ w = w' := by
  obtain ⟨h1, h2⟩ := h
  rcases (show x = 1 ∨ x = 2 ∨ x = 3 by omega) with rfl | rfl | rfl
  all_goals
    go_enter Try.func39, Try.ntmps39
    go_wp2
    go_ret
    exact ⟨rfl, rfl⟩
theorem owns_no (x : Int) (w : World) (h : ¬ who x) : Calls Try.prog 39 #[.int .i64 x] w fun e w' => e = .returned (.bool false) ∧ w = w' := by
  unfold who at h
  have z1 : (x == 1) = false := beq_eq_false_iff_ne.2 (by omega)
  have z2 : (x == 2) = false := beq_eq_false_iff_ne.2 (by omega)
  have z3 : (x == 3) = false := beq_eq_false_iff_ne.2 (by omega)
  go_enter Try.func39, Try.ntmps39
  go_wp2
  go_ret
  exact ⟨rfl, rfl⟩
theorem enter_give (xs : Array Value) (W : World) : (callFunc 40 xs).run Try.prog W = .ok (.enter 40 xs) W := by go_simp
theorem enter_owner (xs : Array Value) (W : World) : (callFunc 33 xs).run Try.prog W = .ok (.enter 33 xs) W := by go_simp
theorem enter_size (xs : Array Value) (W : World) : (callFunc 41 xs).run Try.prog W = .ok (.enter 41 xs) W := by go_simp
section
variable {w0 w : World} {S S0 : Nat → Prop} {N : List Res} {p bb off cap n : Nat} {bp : Nat → Nat} {st : Nat → Buf} {G : Int}
theorem POK.refs (ok : POK n st G) {i : Nat} (hi : i < n) : 0 ≤ (st i).refs ∧ (st i).refs ≤ 100 := (ok.b i hi).2.2.1
theorem POK.gen (ok : POK n st G) {i : Nat} (hi : i < n) : 0 ≤ (st i).gen ∧ (st i).gen < 9223372036854775807 := ⟨(ok.b i hi).1.1, by have := (ok.b i hi).1.2; have := ok.g; omega⟩
theorem give1_c {W : World} (s : St w0 S0 W (PoolL p bb off cap bp n st ++ N)) {i : Nat} (hi : i < n) {a z c : Int} {b' : Buf} (h : GiveB a z (st i) c b') {f t : Nat} (c1 : W.cell? ⟨f, 0, none⟩ = some (.int .i64 a)) (c2 : W.cell? ⟨t, 0, none⟩ = some (.int .i64 z)) :
    Calls Try.prog 40 #[.pointer (some ⟨bb, off + i * 4, none⟩), .pointer (some ⟨f, 0, none⟩), .pointer (some ⟨t, 0, none⟩)] W fun e w' => e = .returned (.int .i64 c) ∧ St w0 S0 w' (PoolL p bb off cap bp n (updB st i b') ++ N) := by
  obtain ⟨e0, e1, e2, e3⟩ := pool_four s hi
  have f2 := pool_frozen s (off + i * 4 + 2)
  have f2' := pool_frozen s.drew (off + i * 4 + 2)
  have SO := Lib.hid (fun q => pool_seto (s.drewN q) hi z)
  have SS := Lib.hid s
  clear s e0 e1 e3
  rcases h with ⟨h1, rfl, rfl⟩ | ⟨⟨ha, hz, hne⟩, h2, rfl, rfl⟩ | ⟨⟨ha, hz, hne⟩, h2, rfl, rfl⟩
  · rw [updB_id]
    by_cases ha : who a
    · by_cases hz : who z
      · obtain rfl : a = z := by
          by_cases e : a = z
          · exact e
          · exact absurd ⟨ha, hz, e⟩ h1
        clear h1
        go_enter Try.func40, Try.ntmps40
        go_wp2_with (go_at_call 39; refine (owns_yes _ _ ha).mono ?_; rintro e w1 ⟨rfl, rfl⟩)
        go_ret
        exact ⟨rfl, SS.out⟩
      · clear h1
        go_enter Try.func40, Try.ntmps40
        go_wp2_with (first | (go_at_call_of 39 a; refine (owns_yes a _ ha).mono ?_; rintro e w1 ⟨rfl, rfl⟩) | (go_at_call_of 39 z; refine (owns_no z _ hz).mono ?_; rintro e w1 ⟨rfl, rfl⟩))
        go_ret
        exact ⟨rfl, SS.out⟩
    · clear h1
      go_enter Try.func40, Try.ntmps40
      go_wp2_with (go_at_call 39; refine (owns_no a _ ha).mono ?_; rintro e w1 ⟨rfl, rfl⟩)
      go_ret
      exact ⟨rfl, SS.out⟩
  · rw [updB_id]
    have z1 : (a == z) = false := beq_eq_false_iff_ne.2 hne
    have z2 : ((st i).owner != a) = true := by simp [bne, h2]
    generalize (st i).owner = ow at *
    clear h2 hne
    go_enter Try.func40, Try.ntmps40
    go_wp2_with (first | (go_at_call_of 39 a; refine (owns_yes a _ ha).mono ?_; rintro e w1 ⟨rfl, rfl⟩) | (go_at_call_of 39 z; refine (owns_yes z _ hz).mono ?_; rintro e w1 ⟨rfl, rfl⟩))
    go_quiet (fail)
    go_wp2_with fail
    go_ret
    exact ⟨rfl, SS.out.drewN _⟩
  · have z1 : (a == z) = false := beq_eq_false_iff_ne.2 hne
    rw [h2] at e2
    have z2 : (a != a) = false := by simp [bne]
    clear h2 hne
    go_enter Try.func40, Try.ntmps40
    go_wp2_with (first | (go_at_call_of 39 a; refine (owns_yes a _ ha).mono ?_; rintro e w1 ⟨rfl, rfl⟩) | (go_at_call_of 39 z; refine (owns_yes z _ hz).mono ?_; rintro e w1 ⟨rfl, rfl⟩))
    go_quiet (fail)
    go_wp2_with fail
    go_ret
    exact ⟨rfl, SO.out _⟩
end
end Go.Proofs.Ytiaojhjghededaa
