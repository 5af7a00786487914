/- Layer 18: the answers that the document fixes. Printed by bin/genOrdA.py. -/
import Derived.Test.YtmikjbhhnndncaaOrdJ
namespace Go.Proofs.Ytmikjbhhnndncaa
open Go.RowKit
set_option linter.unusedVariables false
set_option maxRecDepth 100000
set_option maxHeartbeats 2000000
def near (s : OSt) (up : Bool) : Option Wt := s.l.foldl (nearStep s up) none
theorem near_k (s : OSt) (up : Bool) : ∀ k, k ≤ s.l.length → NearP s up k ((s.l.take k).foldl (nearStep s up) none)
  | 0, _ => fun i x h => by omega
  | k + 1, h => by
    have hk : k < s.l.length := by omega
    have e : s.l.take (k + 1) = s.l.take k ++ [s.l[k]] := by rw [List.take_succ_eq_append_getElem hk]
    rw [e, List.foldl_append]
    exact (near_k s up k (by omega)).step (List.getElem?_eq_getElem hk)
theorem near_P (s : OSt) (up : Bool) : NearP s up s.l.length (near s up) := by
  have := near_k s up s.l.length (Nat.le_refl _)
  rwa [List.take_length] at this
theorem next_on {s : OSt} {x : Wt} (h : near s s.up = some x) : NextP s x s.up 0 := Or.inr (Or.inl ⟨h ▸ near_P s s.up, rfl, rfl⟩)
theorem next_turn {s : OSt} {x : Wt} (h : near s s.up = none) (h2 : near s (!s.up) = some x) : NextP s x (!s.up) 0 := Or.inr (Or.inr ⟨h ▸ near_P s s.up, h2 ▸ near_P s (!s.up), rfl, rfl⟩)
theorem take_of {s : OSt} {x : Wt} {up : Bool} (h : NextP s x up 0) (i : Nat) (hi : s.l[i]? = some x) : TakeP s x 0 ⟨s.l.eraseIdx i, x.track, up⟩ := ⟨up, h, Or.inr ⟨rfl, i, hi, rfl⟩⟩
theorem take_none {s : OSt} (h : s.l = []) : TakeP s ⟨0, 0, 0⟩ 5 s := ⟨false, Or.inl ⟨h, rfl, rfl, rfl⟩, Or.inl ⟨rfl, rfl⟩⟩
def oA0 : OSt := ⟨[], 0, true⟩
theorem ook0 : oA0.ok := OSt.new_ok
def oA1 : OSt := ⟨[⟨9, 1, 5⟩], 0, true⟩
theorem ostep0 : AddP oA0 ⟨9, 1, 5⟩ 0 oA1 := Or.inr (Or.inr (Or.inr ⟨by decide, by decide, by decide, rfl, rfl⟩))
theorem ook1 : oA1.ok := ostep0.ok ook0
def oA2 : OSt := ⟨[], 5, true⟩
theorem ostep1 : TakeP oA1 ⟨9, 1, 5⟩ 0 oA2 := take_of (next_on (by decide)) 0 rfl
theorem ook2 : oA2.ok := ostep1.ok ook1
def oA3 : OSt := ⟨[⟨1, 9, 7⟩], 5, true⟩
theorem ostep2 : AddP oA2 ⟨1, 9, 7⟩ 0 oA3 := Or.inr (Or.inr (Or.inr ⟨by decide, by decide, by decide, rfl, rfl⟩))
theorem ook3 : oA3.ok := ostep2.ok ook2
def oA4 : OSt := ⟨[⟨1, 9, 7⟩, ⟨2, 9, 3⟩], 5, true⟩
theorem ostep3 : AddP oA3 ⟨2, 9, 3⟩ 0 oA4 := Or.inr (Or.inr (Or.inr ⟨by decide, by decide, by decide, rfl, rfl⟩))
theorem ook4 : oA4.ok := ostep3.ok ook3
def oA5 : OSt := ⟨[⟨1, 9, 7⟩, ⟨2, 9, 3⟩, ⟨3, 9, 9⟩], 5, true⟩
theorem ostep4 : AddP oA4 ⟨3, 9, 9⟩ 0 oA5 := Or.inr (Or.inr (Or.inr ⟨by decide, by decide, by decide, rfl, rfl⟩))
theorem ook5 : oA5.ok := ostep4.ok ook4
def oA6 : OSt := ⟨[⟨2, 9, 3⟩, ⟨3, 9, 9⟩], 7, true⟩
theorem ostep5 : TakeP oA5 ⟨1, 9, 7⟩ 0 oA6 := take_of (next_on (by decide)) 0 rfl
theorem ook6 : oA6.ok := ostep5.ok ook5
def oA7 : OSt := ⟨[⟨2, 9, 3⟩], 9, true⟩
theorem ostep6 : TakeP oA6 ⟨3, 9, 9⟩ 0 oA7 := take_of (next_on (by decide)) 1 rfl
theorem ook7 : oA7.ok := ostep6.ok ook6
def oA8 : OSt := ⟨[], 3, false⟩
theorem ostep7 : TakeP oA7 ⟨2, 9, 3⟩ 0 oA8 := take_of (next_turn (by decide) (by decide)) 0 rfl
theorem ook8 : oA8.ok := ostep7.ok ook7
theorem ostep8 : TakeP oA8 ⟨0, 0, 0⟩ 5 oA8 := take_none rfl
section
variable {w0 w : World} {S0 : Nat → Prop} {L : List Res}
theorem awake_any (w : World) : Calls Try.prog 9 #[] w fun e w' => e = .returned (.bool true) ∧ Below w.heap.size w w' := by
  have H := Lib.hid (New_o (St.begin w))
  go_enter Try.func9, Try.ntmps9
  go_wp2_with fail
  refine H.out.mono ?_
  rintro e w0 ⟨q, rfl, s0'⟩
  have s0 : St w None w0 [OQR q oA0] := s0'
  have C0 := Lib.hid (Add_o s0 0 rfl ook0 (x := ⟨9, 1, 5⟩) (by decide) ostep0)
  clear s0 s0' H
  go_wp2_with fail
  refine C0.out.mono ?_
  rintro e w1 ⟨rfl, s1'⟩
  have s1 : St w None w1 [OQR q oA1] := s1'
  have C1 := Lib.hid (Take_o s1 0 rfl ook1 ostep1)
  clear C0 s1' s1
  go_wp2_with fail
  refine C1.out.mono ?_
  rintro e w2 ⟨rfl, s2'⟩
  have s2 : St w None w2 [OQR q oA2] := s2'
  have C2 := Lib.hid (Add_o s2 0 rfl ook2 (x := ⟨1, 9, 7⟩) (by decide) ostep2)
  clear C1 s2' s2
  go_wp2_with fail
  refine C2.out.mono ?_
  rintro e w3 ⟨rfl, s3'⟩
  have s3 : St w None w3 [OQR q oA3] := s3'
  have C3 := Lib.hid (Add_o s3 0 rfl ook3 (x := ⟨2, 9, 3⟩) (by decide) ostep3)
  clear C2 s3' s3
  go_wp2_with fail
  refine C3.out.mono ?_
  rintro e w4 ⟨rfl, s4'⟩
  have s4 : St w None w4 [OQR q oA4] := s4'
  have C4 := Lib.hid (Add_o s4 0 rfl ook4 (x := ⟨3, 9, 9⟩) (by decide) ostep4)
  clear C3 s4' s4
  go_wp2_with fail
  refine C4.out.mono ?_
  rintro e w5 ⟨rfl, s5'⟩
  have s5 : St w None w5 [OQR q oA5] := s5'
  have C5 := Lib.hid (Take_o s5 0 rfl ook5 ostep5)
  clear C4 s5' s5
  go_wp2_with fail
  refine C5.out.mono ?_
  rintro e w6 ⟨rfl, s6'⟩
  have s6 : St w None w6 [OQR q oA6] := s6'
  have t6 : St w None (w6.alloc (.cells #[.int .i64 1, .int .u64 9, .int .i64 7] 32)) [OQR q oA6, BlkR w6.heap.size 32 #[.int .i64 1, .int .u64 9, .int .i64 7]] := St.box (L := [_]) s6 _ _
  have C6 := Lib.hid (Take_o t6 0 rfl ook6 ostep6)
  clear C5 s6' s6 t6
  go_wp2_with fail
  refine C6.out.mono ?_
  rintro e w7 ⟨rfl, s7'⟩
  have s7 : St w None w7 [OQR q oA7, BlkR w6.heap.size 32 #[.int .i64 1, .int .u64 9, .int .i64 7]] := s7'
  have t7 : St w None (w7.alloc (.cells #[.int .i64 3, .int .u64 9, .int .i64 9] 32)) [OQR q oA7, BlkR w6.heap.size 32 #[.int .i64 1, .int .u64 9, .int .i64 7], BlkR w7.heap.size 32 #[.int .i64 3, .int .u64 9, .int .i64 9]] := St.box (L := [_, _]) s7 _ _
  have C7 := Lib.hid (Take_o t7 0 rfl ook7 ostep7)
  clear C6 s7' s7 t7
  go_wp2_with fail
  refine C7.out.mono ?_
  rintro e w8 ⟨rfl, s8'⟩
  have s8 : St w None w8 [OQR q oA8, BlkR w6.heap.size 32 #[.int .i64 1, .int .u64 9, .int .i64 7], BlkR w7.heap.size 32 #[.int .i64 3, .int .u64 9, .int .i64 9]] := s8'
  have t8 : St w None (w8.alloc (.cells #[.int .i64 2, .int .u64 9, .int .i64 3] 32)) [OQR q oA8, BlkR w6.heap.size 32 #[.int .i64 1, .int .u64 9, .int .i64 7], BlkR w7.heap.size 32 #[.int .i64 3, .int .u64 9, .int .i64 9], BlkR w8.heap.size 32 #[.int .i64 2, .int .u64 9, .int .i64 3]] := St.box (L := [_, _, _]) s8 _ _
  have C8 := Lib.hid (Take_o t8 0 rfl ook8 ostep8)
  clear C7 s8' s8 t8
  go_wp2_with fail
  refine C8.out.mono ?_
  rintro e w9 ⟨rfl, s9'⟩
  have s9 : St w None w9 [OQR q oA8, BlkR w6.heap.size 32 #[.int .i64 1, .int .u64 9, .int .i64 7], BlkR w7.heap.size 32 #[.int .i64 3, .int .u64 9, .int .i64 9], BlkR w8.heap.size 32 #[.int .i64 2, .int .u64 9, .int .i64 3]] := s9'
  have t9 : St w None (w9.alloc (.cells #[.int .i64 0, .int .u64 0, .int .i64 0] 32)) [OQR q oA8, BlkR w6.heap.size 32 #[.int .i64 1, .int .u64 9, .int .i64 7], BlkR w7.heap.size 32 #[.int .i64 3, .int .u64 9, .int .i64 9], BlkR w8.heap.size 32 #[.int .i64 2, .int .u64 9, .int .i64 3], BlkR w9.heap.size 32 #[.int .i64 0, .int .u64 0, .int .i64 0]] := St.box (L := [_, _, _, _]) s9 _ _
  have C9 := Lib.hid (Head_o t9 0 rfl)
  clear C8 s9' s9 t9
  go_wp2_with fail
  refine C9.out.mono ?_
  rintro e w10 ⟨rfl, s10'⟩
  have s10 : St w None w10 [OQR q oA8, BlkR w6.heap.size 32 #[.int .i64 1, .int .u64 9, .int .i64 7], BlkR w7.heap.size 32 #[.int .i64 3, .int .u64 9, .int .i64 9], BlkR w8.heap.size 32 #[.int .i64 2, .int .u64 9, .int .i64 3], BlkR w9.heap.size 32 #[.int .i64 0, .int .u64 0, .int .i64 0]] := s10'
  have q0 := (s10.blk 1 rfl).three.1
  have q1 := (s10.blk 2 rfl).three.1
  have q2 := (s10.blk 3 rfl).three.1
  have SB := Lib.hid s10.below
  clear C9 s10' s10
  go_wp2_with fail
  go_ret
  exact ⟨rfl, SB.out⟩
theorem awake_o (H : St w0 S0 w L) : Calls Try.prog 9 #[] w fun e w' => e = .returned (.bool true) ∧ St w0 S0 w' L := looks (awake_any w) H
end
end Go.Proofs.Ytmikjbhhnndncaa
