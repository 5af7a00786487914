/- Layer 7: shared, dropped, given; whose it is, and how great. -/
import Derived.Test.YtceoflpoefehoaaPoolW
namespace Go.Proofs.Ytceoflpoefehoaa
open Go.RowKit
set_option linter.unusedVariables false
set_option maxRecDepth 100000
set_option maxHeartbeats 800000
section
variable {w0 w : World} {S S0 : Nat → Prop} {N : List Res} {p bb off cap n : Nat} {bp : Nat → Nat} {st : Nat → Buf}
theorem pool_end {w' : World} (s : St w S w' (PoolL p bb off cap bp n st ++ N)) : ∃ S', PoolR p n st w' S' ∧ Did S S' w w' := by
  have h := s.take (PoolL p bb off cap bp n st).length
  rw [List.take_left] at h
  exact h.fin fun S' h => ⟨bb, off, cap, bp, h⟩
theorem pool_begin {w : World} {S : Nat → Prop} (h : PoolR p n st w S) : ∃ bb off cap bp, St w S w (PoolL p bb off cap bp n st ++ []) := by
  obtain ⟨bb, off, cap, bp, hs⟩ := h
  exact ⟨bb, off, cap, bp, by rw [List.append_nil]; exact St.start hs⟩
/-- What a Share answers, and what is there then. -/
def ShareB (b : Buf) (c : Int) (b' : Buf) : Prop := (b.owner ≠ 1 ∧ c = 8 ∧ b' = b) ∨ (b.owner = 1 ∧ b.refs = 100 ∧ c = 4 ∧ b' = b) ∨ (b.owner = 1 ∧ b.refs ≠ 100 ∧ c = 0 ∧ b' = { b with refs := b.refs + 1 })
theorem share_b (b : Buf) : ∃ c b', ShareB b c b' := by
  by_cases h : b.owner = 1
  · by_cases h2 : b.refs = 100
    · exact ⟨_, _, Or.inr (Or.inl ⟨h, h2, rfl, rfl⟩)⟩
    · exact ⟨_, _, Or.inr (Or.inr ⟨h, h2, rfl, rfl⟩)⟩
  · exact ⟨_, _, Or.inl ⟨h, rfl, rfl⟩⟩
def DropB (b : Buf) (c : Int) (b' : Buf) : Prop := (b.owner ≠ 1 ∧ c = 8 ∧ b' = b) ∨ (b.owner = 1 ∧ b.refs ≠ 1 ∧ c = 0 ∧ b' = { b with refs := b.refs - 1 }) ∨ (b.owner = 1 ∧ b.refs = 1 ∧ c = 0 ∧ b' = { b with refs := 0, owner := 0, gen := b.gen + 1 })
theorem drop_b (b : Buf) : ∃ c b', DropB b c b' := by
  by_cases h : b.owner = 1
  · by_cases h2 : b.refs = 1
    · exact ⟨_, _, Or.inr (Or.inr ⟨h, h2, rfl, rfl⟩)⟩
    · exact ⟨_, _, Or.inr (Or.inl ⟨h, h2, rfl, rfl⟩)⟩
  · exact ⟨_, _, Or.inl ⟨h, rfl, rfl⟩⟩
theorem updB_id (st : Nat → Buf) (i : Nat) : updB st i (st i) = st := by
  funext j
  by_cases e : j = i
  · rw [e, updB_self]
  · rw [updB_ne _ _ e]
theorem updB_two (st : Nat → Buf) (i : Nat) (a b : Buf) : updB (updB st i a) i b = updB st i b := by
  funext j
  by_cases e : j = i
  · rw [e, updB_self, updB_self]
  · rw [updB_ne _ _ e, updB_ne _ _ e, updB_ne _ _ e]
theorem share1_c {W : World} (s : St w0 S0 W (PoolL p bb off cap bp n st ++ N)) {i : Nat} (hi : i < n) (hr : 0 ≤ (st i).refs ∧ (st i).refs ≤ 100) {c : Int} {b' : Buf} (h : ShareB (st i) c b') :
    Calls Try.prog 26 #[.pointer (some ⟨bb, off + i * 4, none⟩)] W fun e w' => e = .returned (.int .i64 c) ∧ St w0 S0 w' (PoolL p bb off cap bp n (updB st i b') ++ N) := by
  obtain ⟨e0, e1, e2, e3⟩ := pool_four s hi
  have f3 := pool_frozen s (off + i * 4 + 3)
  have SR := Lib.hid (fun g => pool_setr s hi g)
  have SS := Lib.hid s
  clear s e0 e1
  rcases h with ⟨h1, rfl, rfl⟩ | ⟨h1, h2, rfl, rfl⟩ | ⟨h1, h2, rfl, rfl⟩
  · have z1 : ((st i).owner != 1) = true := by simp [bne, h1]
    rw [updB_id]
    generalize (st i).owner = ow at *
    generalize (st i).refs = rf at *
    clear h1
    go_enter Try.func26, Try.ntmps26
    go_wp2
    go_ret
    exact ⟨rfl, SS.out⟩
  · rw [h1] at e2
    rw [h2] at e3
    rw [updB_id]
    go_enter Try.func26, Try.ntmps26
    go_wp2
    go_ret
    exact ⟨rfl, SS.out⟩
  · rw [h1] at e2
    have z1 : ((st i).refs == 100) = false := beq_eq_false_iff_ne.2 h2
    have S2 := Lib.hid (SR.out ((st i).refs + 1))
    generalize (st i).refs = rf at *
    clear SR SS h1 h2
    go_enter Try.func26, Try.ntmps26
    go_wp2
    go_ret
    exact ⟨rfl, S2.out⟩
theorem drop1_c {W : World} (s : St w0 S0 W (PoolL p bb off cap bp n st ++ N)) {i : Nat} (hi : i < n) (hr : 0 ≤ (st i).refs ∧ (st i).refs ≤ 100) (hg : 0 ≤ (st i).gen ∧ (st i).gen < 9223372036854775807) {c : Int} {b' : Buf} (h : DropB (st i) c b') :
    Calls Try.prog 27 #[.pointer (some ⟨bb, off + i * 4, none⟩)] W fun e w' => e = .returned (.int .i64 c) ∧ St w0 S0 w' (PoolL p bb off cap bp n (updB st i b') ++ N) := by
  obtain ⟨e0, e1, e2, e3⟩ := pool_four s hi
  have f3 := pool_frozen s (off + i * 4 + 3)
  have SR := Lib.hid (fun g => pool_setr s hi g)
  have SS := Lib.hid s
  rcases h with ⟨h1, rfl, rfl⟩ | ⟨h1, h2, rfl, rfl⟩ | ⟨h1, h2, rfl, rfl⟩
  · have z1 : ((st i).owner != 1) = true := by simp [bne, h1]
    rw [updB_id]
    clear s
    generalize (st i).owner = ow at *
    generalize (st i).refs = rf at *
    clear h1
    go_enter Try.func27, Try.ntmps27
    go_wp2
    go_ret
    exact ⟨rfl, SS.out⟩
  · rw [h1] at e2
    have s2 := SR.out ((st i).refs - 1)
    obtain ⟨-, -, -, g3⟩ := pool_four s2 hi
    rw [updB_self] at g3
    dsimp only at g3
    have z1 : ((st i).refs - 1 == 0) = false := beq_eq_false_iff_ne.2 (by omega)
    have S2 := Lib.hid s2
    clear s s2 SR SS e0 e1 h1
    generalize (st i).refs = rf at *
    go_enter Try.func27, Try.ntmps27
    go_wp2
    go_ret
    exact ⟨rfl, S2.out⟩
  · rw [h1] at e2
    rw [h2] at e3
    have s2 := SR.out 0
    obtain ⟨-, -, g2, g3⟩ := pool_four s2 hi
    rw [updB_self] at g2 g3
    dsimp only at g2 g3
    have f2 := pool_frozen s2 (off + i * 4 + 2)
    have s3 := pool_seto s2 hi 0
    rw [updB_two, updB_self] at s3
    obtain ⟨-, k1, -, -⟩ := pool_four s3 hi
    rw [updB_self] at k1
    dsimp only at k1
    have f4 := pool_frozen s3 (off + i * 4 + 1)
    have s4 := pool_setg s3 hi ((st i).gen + 1)
    rw [updB_two, updB_self] at s4
    dsimp only at s4
    have S4 := Lib.hid s4
    rw [h1] at g2
    clear s s2 s3 s4 SR SS e0 e1
    generalize (st i).gen = ge at *
    go_enter Try.func27, Try.ntmps27
    go_wp2
    go_ret
    exact ⟨rfl, S4.out⟩
end
end Go.Proofs.Ytceoflpoefehoaa
