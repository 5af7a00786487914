/- Layer 18: all of none. -/
import Derived.Test.YtmikjbhhnndncaaOrdJ
import Derived.Test.YtmikjbhhnndncaaOrdL
namespace Go.Proofs.Ytmikjbhhnndncaa
open Go.RowKit
set_option linter.unusedVariables false
set_option maxRecDepth 100000
set_option maxHeartbeats 2000000
/-- A slice of none. -/
def EmptyQ (w : World) (e : Ending) (w' : World) : Prop := ∃ B d, e = .returned (.slice B 0 d) ∧ Below w.heap.size w w'
section
variable {w0 w w' : World} {S0 S : Nat → Prop} {N L : List Res} {q : Nat} {s s' : OSt}
theorem ins_0 (A : Option Addr) (c : Nat) (f : Value) (w : World) : Calls Try.prog 49 #[.slice A 0 c, .int .i64 0, .int .i64 0, f] w fun e w' => e = .returned (.tuple #[]) ∧ w = w' := by
  go_enter Try.func49, Try.ntmps49
  go_wp2_with fail
  go_loopw [8] (fun i wr => i = .int .i64 1 ∧ wr = w) (fun i _ => 0)
  case atStart => exact ⟨rfl, rfl⟩
  case round =>
  obtain ⟨rfl, rfl⟩ := hrel
  go_wp2_with fail
  go_end0
  exact ⟨rfl, rfl⟩
theorem pdq_0 (A : Option Addr) (c : Nat) (f : Value) (w : World) : Calls Try.prog 42 #[.slice A 0 c, .int .i64 0, .int .i64 0, .int .i64 0, f] w fun e w' => e = .returned (.tuple #[]) ∧ w = w' := by
  have IC := Lib.hid (ins_0 A c f w)
  go_enter Try.func42, Try.ntmps42
  go_wp2_with fail
  go_loopw [1, 2, 3] (fun a b l wr => a = .int .i64 0 ∧ b = .int .i64 0 ∧ l = .int .i64 0 ∧ wr = w) (fun _ _ _ _ => 0)
  case atStart => exact ⟨rfl, rfl, rfl, rfl⟩
  case round =>
  obtain ⟨rfl, rfl, rfl, rfl⟩ := hrel
  go_wp2_with fail
  refine IC.out.mono ?_
  rintro e w1 ⟨rfl, rfl⟩
  go_wp2_with fail
  refine bodyPost_ret (v := .tuple #[]) ?_ rfl ⟨rfl, rfl⟩
  simp [results, go_sem]
theorem sort_0 (A : Option Addr) (c : Nat) (f : Value) (w : World) : Calls Try.prog 33 #[.slice A 0 c, f] w fun e w' => e = .returned (.tuple #[]) ∧ w = w' := by
  have LC := Lib.hid (len_0 w)
  have PC := Lib.hid (pdq_0 A c f w)
  go_enter Try.func33, Try.ntmps33
  go_wp2_with fail
  refine LC.out.mono ?_
  rintro e w1 ⟨rfl, rfl⟩
  go_wp2_with fail
  refine PC.out.mono ?_
  rintro e w1 ⟨rfl, rfl⟩
  go_wp2_with fail
  go_end0
  exact ⟨rfl, rfl⟩
theorem clone_0 {A : Option Addr} {c : Nat} (w : World) : Calls Try.prog 32 #[.slice A 0 c] w (EmptyQ w) := by
  obtain ⟨iI, hiI, hzI, hsI, hbI⟩ := info3o Try.infoWant
  cases A with
  | none =>
    have NY : ∀ W, (binOp .eql 27 (.slice none 0 c) (.slice none 0 0)).run Try.prog W = .ok (.bool true) W := fun W => by rfl
    go_enter Try.func32, Try.ntmps32
    go_wp2_with fail
    go_ret
    exact ⟨none, 0, rfl, Below.refl _ _⟩
  | some a =>
    have NN : ∀ W, (binOp .eql 27 (.slice (some a) 0 c) (.slice none 0 0)).run Try.prog W = .ok (.bool false) W := fun W => by rfl
    have s1 := (St.begin w).lis_new 32 3 0 #[] rfl (by unfold maxLen; omega)
    have HL := Lib.hid (show Lis (w.alloc (.cells #[] 32)) 32 3 (.slice (some ⟨w.heap.size, 0, none⟩) 0 0) 0 [] from s1.lis 0 rfl)
    have RB := Lib.hid (show Rds (w.alloc (.cells #[] 32)) (some a) 0 3 [] from ⟨rfl, Or.inl rfl⟩)
    have S1 := Lib.hid s1
    clear s1
    go_enter Try.func32, Try.ntmps32
    go_wp2_with (at_builtin; refine wpList_lis rfl (.tmp 5) (.tmp 6) 27 rfl 32 iI (.agg #[.int .i64 0, .int .u64 0, .int .i64 0]) 3 24 Try.underlying27 hiI hzI hsI hbI rfl (by decide) _ _ _ rfl HL.out (some a) 0 c [] rfl RB.out (by intro u hu; cases hu) (by unfold maxLen; omega) (by omega) ?_; intro B d w4 hl hg hat; have t4 := S1.out.lis_put 0 rfl hl hg hat; have T4 := Lib.hid t4.below; clear hl hg hat t4)
    go_wp2_with fail
    go_ret
    exact ⟨B, d, rfl, T4.out⟩
theorem All_0 (h : OQR q s w S) (he : s.l = []) : Calls Try.prog 23 #[.pointer (some ⟨q, 0, none⟩)] w (EmptyQ w) := by
  obtain ⟨A, c, hh⟩ := h
  have c0 : w.cell? ⟨q, 0, none⟩ = some (.slice A 0 c) := by
    have := ((St.start hh).blk 0 rfl).three.1
    rw [he] at this; exact this
  have CL := Lib.hid (clone_0 (A := A) (c := c) w)
  clear hh he
  go_enter Try.func23, Try.ntmps23
  go_wp2_with fail
  refine CL.out.mono ?_
  rintro e w1 ⟨B, d, rfl, hb⟩
  have HB := Lib.hid hb
  clear hb CL
  go_wp2_with fail
  refine (sort_0 B d _ w1).mono ?_
  rintro e w2 ⟨rfl, rfl⟩
  go_wp2_with fail
  go_ret
  exact ⟨B, d, rfl, HB.out⟩
end
end Go.Proofs.Ytmikjbhhnndncaa
