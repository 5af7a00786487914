/- Layer 23: answers that the document fixes; calls beside others. -/
import Derived.Test.YtpfodchdpafofaaLockI
namespace Go.Proofs.Ytpfodchdpafofaa
open Go.RowKit
set_option linter.unusedVariables false
set_option maxRecDepth 100000
set_option maxHeartbeats 4000000
section
variable {w0 w w' : World} {S0 S : Nat → Prop} {B L : List Res} {k c b N : Nat} {A : Option Addr} {ptr : Nat → Nat} {s s' : KS}
theorem Prio_o (H : St w0 S0 w L) (q : Nat) (hq : L[q]? = some (KR k N s)) (hs : s.ok) {i : Nat} {m : Mb} (hm : s.mem i = some m) :
    Calls Try.prog 13 #[.pointer (some ⟨k, 0, none⟩), .int .i64 (i : Int)] w fun e w' => e = .returned (.tuple #[.int .i64 (s.cur m), .int .i64 0]) ∧ w = w' := by
  obtain ⟨T, A, c, b, ptr, h⟩ := H.get q hq
  exact Prio_some (KV.of_star h) hs hm
theorem PrioN_o (H : St w0 S0 w L) (q : Nat) (hq : L[q]? = some (KR k N s)) {i : Nat} (hi : i < 64) (hm : s.mem i = none) :
    Calls Try.prog 13 #[.pointer (some ⟨k, 0, none⟩), .int .i64 (i : Int)] w fun e w' => e = .returned (.tuple #[.int .i64 0, .int .i64 6]) ∧ w = w' := by
  obtain ⟨T, A, c, b, ptr, h⟩ := H.get q hq
  exact Prio_none (KV.of_star h) hi hm
theorem Held_o (H : St w0 S0 w L) (q : Nat) (hq : L[q]? = some (KR k N s)) (hs : s.ok) {i : Nat} {m : Mb} (hm : s.mem i = some m) :
    Calls Try.prog 10 #[.pointer (some ⟨k, 0, none⟩), .int .i64 (i : Int)] w fun e w' => ∃ C d, e = .returned (.slice C m.held.length d) ∧ St w None w' [LisR 3 1 (.slice C m.held.length d) m.held.length (ivs m.held)] := by
  obtain ⟨T, A, c, b, ptr, h⟩ := H.get q hq
  exact Held_some (KV.of_star h) hs hm
theorem HeldN_o (H : St w0 S0 w L) (q : Nat) (hq : L[q]? = some (KR k N s)) {i : Nat} (hi : i < 64) (hm : s.mem i = none) :
    Calls Try.prog 10 #[.pointer (some ⟨k, 0, none⟩), .int .i64 (i : Int)] w fun e w' => e = .returned (.slice none 0 0) ∧ w = w' := by
  obtain ⟨T, A, c, b, ptr, h⟩ := H.get q hq
  exact Held_none (KV.of_star h) hi hm
theorem Holder_o (H : St w0 S0 w L) (q : Nat) (hq : L[q]? = some (KR k N s)) (hs : s.ok) (y : Nat) (o : Option Nat) (ho : ∀ i, holds s i y ↔ o = some i) :
    Calls Try.prog 17 #[.pointer (some ⟨k, 0, none⟩), .int .i64 (y : Int)] w fun e w' => e = .returned (.tuple #[.int .i64 ((o.getD 0 : Nat) : Int), .bool o.isSome]) ∧ Below w.heap.size w w' := by
  obtain ⟨T, A, c, b, ptr, h⟩ := H.get q hq
  exact Holder_c (KV.of_star h) hs y o ho
/-! ### The awake's keeper, step by step -/
def a0 : KS := KS.new [2, 5]
def a1 : KS := a0.set 7 (some ⟨9, []⟩)
def a2 : KS := a1.set 8 (some ⟨3, []⟩)
def a3 : KS := a2.set 7 (some ⟨9, [1]⟩)
def a4 : KS := a3.set 7 (some ⟨9, [1, 0]⟩)
def a5 : KS := a4.set 7 (some ⟨9, [1]⟩)
theorem a0_ok : a0.ok := KS.new_ok (by decide) (by decide) (by decide)
theorem a1_ok : a1.ok := know_ok a0_ok (by decide) (by decide)
theorem a2_ok : a2.ok := know_ok a1_ok (by decide) (by decide)
theorem a2_free (y : Nat) : ∀ j, ¬ holds a2 j y := fun j ⟨m, h, hy⟩ => by
  have h : (if j = 8 then some (⟨3, []⟩ : Mb) else if j = 7 then some ⟨9, []⟩ else none) = some m := h
  split at h
  · injection h with h; subst h; cases hy
  · split at h
    · injection h with h; subst h; cases hy
    · cases h
theorem a3_free : ∀ j, ¬ holds a3 j 0 := fun j ⟨m, h, hy⟩ => by
  have h : (if j = 7 then some (⟨9, [1]⟩ : Mb) else if j = 8 then some (⟨3, []⟩ : Mb) else if j = 7 then some ⟨9, []⟩ else none) = some m := h
  split at h
  · injection h with h; subst h; simp at hy
  · split at h
    · injection h with h; subst h; cases hy
    · cases h
      
theorem t1 : TakeP a2 7 ((1 : Nat) : Int) 0 a3 := Or.inr ⟨1, rfl, by decide, Or.inr ⟨⟨9, []⟩, rfl, Or.inr (Or.inr (Or.inr ⟨by simp, by decide, a2_free 1, rfl, rfl⟩))⟩⟩
theorem a3_ok : a3.ok := t1.ok a2_ok
theorem t2 : TakeP a3 7 ((0 : Nat) : Int) 0 a4 := Or.inr ⟨0, rfl, by decide, Or.inr ⟨⟨9, [1]⟩, rfl, Or.inr (Or.inr (Or.inr ⟨by simp, by decide, a3_free, rfl, rfl⟩))⟩⟩
theorem a4_ok : a4.ok := t2.ok a3_ok
theorem t3 : TakeP a4 8 ((0 : Nat) : Int) 10 a4 := Or.inr ⟨0, rfl, by decide, Or.inr ⟨⟨3, []⟩, rfl, Or.inr (Or.inr (Or.inl ⟨by simp, by decide, ⟨7, ⟨9, [1, 0]⟩, rfl, by simp⟩, rfl, rfl⟩))⟩⟩
theorem t4 : TakeP a4 8 ((1 : Nat) : Int) 11 a4 := Or.inr ⟨1, rfl, by decide, Or.inr ⟨⟨3, []⟩, rfl, Or.inr (Or.inl ⟨by simp, by decide, rfl, rfl⟩)⟩⟩
theorem b1 : BackP a4 7 1 12 a4 := ⟨⟨9, [1, 0]⟩, rfl, by simp, Or.inr ⟨[1], 0, rfl, by decide, rfl, rfl⟩⟩
theorem b2 : BackP a4 7 0 0 a5 := ⟨⟨9, [1, 0]⟩, rfl, by simp, Or.inl ⟨[1], rfl, rfl, rfl⟩⟩
theorem a5_ok : a5.ok := b2.ok a4_ok
theorem awake_o (H : St w0 S0 w L) : Calls Try.prog 7 #[] w fun e w' => e = .returned (.bool true) ∧ Below w.heap.size w w' := by
  have u0 : St w None (w.alloc (.cells #[.int .i64 2, .int .i64 5] 42)) [LisR 42 1 (.slice (some ⟨w.heap.size, 0, none⟩) 2 2) 2 (cvs [2, 5])] := (St.begin w).lis_new 42 1 2 #[.int .i64 2, .int .i64 5] rfl (by unfold maxLen; omega)
  have NW := Lib.hid (New_o (d := 2) u0 (u0.lis 0 rfl).reads rfl (by omega) (by omega) (by decide))
  clear u0 H
  go_enter Try.func7, Try.ntmps7
  go_wp2_with fail
  refine NW.out.mono ?_
  rintro e w1 ⟨k, rfl, s1⟩
  have C1 := Lib.hid (show Calls Try.prog 11 #[.pointer (some ⟨k, 0, none⟩), .int .i64 7, .int .i64 9] w1 _ from Know_o s1 1 rfl a0_ok (i := 7) (by decide) (fun m h => by cases h) (p := 9) (by decide) (by decide))
  clear NW s1
  go_wp2_with fail
  refine C1.out.mono ?_
  rintro e w2 ⟨rfl, s2⟩
  have C2 := Lib.hid (show Calls Try.prog 11 #[.pointer (some ⟨k, 0, none⟩), .int .i64 8, .int .i64 3] w2 _ from Know_o s2 1 rfl a1_ok (i := 8) (by decide) (fun m h => by cases h) (p := 3) (by decide) (by decide))
  clear C1 s2
  go_wp2_with fail
  refine C2.out.mono ?_
  rintro e w3 ⟨rfl, s3⟩
  have C3 := Lib.hid (show Calls Try.prog 14 #[.pointer (some ⟨k, 0, none⟩), .int .i64 7, .int .i64 1] w3 _ from Take_o s3 1 rfl a2_ok (i := 7) (by decide) t1)
  clear C2 s3
  go_wp2_with fail
  refine C3.out.mono ?_
  rintro e w4 ⟨rfl, s4⟩
  have C4 := Lib.hid (show Calls Try.prog 14 #[.pointer (some ⟨k, 0, none⟩), .int .i64 7, .int .i64 0] w4 _ from Take_o s4 1 rfl a3_ok (i := 7) (by decide) t2)
  clear C3 s4
  go_wp2_with fail
  refine C4.out.mono ?_
  rintro e w5 ⟨rfl, s5⟩
  have C5 := Lib.hid (show Calls Try.prog 13 #[.pointer (some ⟨k, 0, none⟩), .int .i64 7] w5 (fun e w' => e = .returned (.tuple #[.int .i64 2, .int .i64 0]) ∧ w5 = w') from Prio_o s5 1 rfl a4_ok (i := 7) (m := ⟨9, [1, 0]⟩) rfl)
  have S5 := Lib.hid s5
  clear C4 s5
  go_wp2_with fail
  refine C5.out.mono ?_
  rintro e w6 ⟨rfl, rfl⟩
  have C6 := Lib.hid (show Calls Try.prog 14 #[.pointer (some ⟨k, 0, none⟩), .int .i64 8, .int .i64 0] w5 _ from Take_o S5.out 1 rfl a4_ok (i := 8) (by decide) t3)
  clear C5
  go_wp2_with fail
  refine C6.out.mono ?_
  rintro e w7 ⟨rfl, s7⟩
  have C7 := Lib.hid (show Calls Try.prog 14 #[.pointer (some ⟨k, 0, none⟩), .int .i64 8, .int .i64 1] w7 _ from Take_o s7 1 rfl a4_ok (i := 8) (by decide) t4)
  clear C6 s7
  go_wp2_with fail
  refine C7.out.mono ?_
  rintro e w8 ⟨rfl, s8⟩
  have C8 := Lib.hid (show Calls Try.prog 15 #[.pointer (some ⟨k, 0, none⟩), .int .i64 7, .int .i64 1] w8 _ from Back_o s8 1 rfl a4_ok b1)
  clear C7 s8
  go_wp2_with fail
  refine C8.out.mono ?_
  rintro e w9 ⟨rfl, s9⟩
  have C9 := Lib.hid (show Calls Try.prog 15 #[.pointer (some ⟨k, 0, none⟩), .int .i64 7, .int .i64 0] w9 _ from Back_o s9 1 rfl a4_ok b2)
  clear C8 s9
  go_wp2_with fail
  refine C9.out.mono ?_
  rintro e w10 ⟨rfl, s10⟩
  have C10 := Lib.hid (show Calls Try.prog 16 #[.pointer (some ⟨k, 0, none⟩), .int .i64 7] w10 _ from Gone_o s10 1 rfl a5_ok (i := 7) (m := ⟨9, [1]⟩) rfl)
  clear C9 s10
  go_wp2_with fail
  refine C10.out.mono ?_
  rintro e w11 ⟨C, d, rfl, s11⟩
  have S11 := Lib.hid s11.below
  clear C10 s11
  go_wp2_with fail
  go_ret
  exact ⟨rfl, S11.out⟩
theorem awake_s (H : St w0 S0 w L) : Calls Try.prog 7 #[] w fun e w' => e = .returned (.bool true) ∧ St w0 S0 w' L := looks (awake_o H) H
end
end Go.Proofs.Ytpfodchdpafofaa
