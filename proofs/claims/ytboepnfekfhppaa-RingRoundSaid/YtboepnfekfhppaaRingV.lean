/- Layer 10: a ring beside other things; the same descriptors; the answers that the document fixes; a step. -/
import Derived.Test.YtboepnfekfhppaaRingF
import Derived.Test.YtboepnfekfhppaaRingG
import Derived.Test.YtboepnfekfhppaaRingH
import Derived.Test.YtboepnfekfhppaaRingI
import Derived.Test.YtboepnfekfhppaaRingS
import Derived.Test.YtboepnfekfhppaaRingT
import Derived.Test.YtboepnfekfhppaaRingU
namespace Go.Proofs.Ytboepnfekfhppaa
open Go.RowKit
set_option linter.unusedVariables false
set_option maxRecDepth 100000
set_option maxHeartbeats 1000000
section
variable {w0 w : World} {S0 S : Nat → Prop} {L : List Res} {p n : Nat} {s s' : RSt}
theorem Put_o (H : St w0 S0 w L) (i : Nat) (hi : L[i]? = some (RingR p n s)) (hs : s.ok n) (d : Dsc) (hf : d.fits) (a f : Int) (hP : PutP n s d a f s') (hm : s.put + 1 ≤ 1000000) :
    Calls Try.prog 10 #[.pointer (some ⟨p, 0, none⟩), d.v] w fun e w' => e = .returned (.tuple #[.int .i64 a, .int .i64 f]) ∧ St w0 S0 w' (L.set i (RingR p n s')) :=
  St.call (fun w S h => Put_c h hs d hf a f hP hm) (RingR.ok _ _ _) H i hi
theorem RPut_o (H : St w0 S0 w L) (i : Nat) (hi : L[i]? = some (RRR p n s)) (hs : s.ok n) (d : Dsc) (hf : d.fits) (a f : Int) (hP : PutP n s d a f s') (hm : s.put + 1 ≤ 1000000) :
    Calls Try.prog 11 #[.pointer (some ⟨p, 0, none⟩), d.v] w fun e w' => e = .returned (.tuple #[.int .i64 a, .int .i64 f]) ∧ St w0 S0 w' (L.set i (RRR p n s')) :=
  St.call (fun w S h => RPut_c h hs d hf a f hP hm) (RRR.ok _ _ _) H i hi
theorem Take_o (H : St w0 S0 w L) (i : Nat) (hi : L[i]? = some (RingR p n s)) (hs : s.ok n) (a f : Int) (d : Dsc) (hP : TakeP s a d f s') :
    Calls Try.prog 12 #[.pointer (some ⟨p, 0, none⟩)] w fun e w' => e = .returned (.tuple #[.int .i64 a, d.v, .int .i64 f]) ∧ St w0 S0 w' (L.set i (RingR p n s')) :=
  St.call (fun w S h => Take_c h hs a f d hP) (RingR.ok _ _ _) H i hi
theorem RTake_o (H : St w0 S0 w L) (i : Nat) (hi : L[i]? = some (RRR p n s)) (hs : s.ok n) (a f : Int) (d : Dsc) (hP : TakeP s a d f s') :
    Calls Try.prog 13 #[.pointer (some ⟨p, 0, none⟩)] w fun e w' => e = .returned (.tuple #[.int .i64 a, d.v, .int .i64 f]) ∧ St w0 S0 w' (L.set i (RRR p n s')) :=
  St.call (fun w S h => RTake_c h hs a f d hP) (RRR.ok _ _ _) H i hi
theorem Finish_o (H : St w0 S0 w L) (i : Nat) (hi : L[i]? = some (RingR p n s)) (hs : s.ok n) (no st f : Int) (hP : FinP s no st f s') :
    Calls Try.prog 14 #[.pointer (some ⟨p, 0, none⟩), .int .i64 no, .int .i64 st] w fun e w' => e = .returned (.int .i64 f) ∧ St w0 S0 w' (L.set i (RingR p n s')) :=
  St.call (fun w S h => Finish_c h hs no st f hP) (RingR.ok _ _ _) H i hi
theorem RFinish_o (H : St w0 S0 w L) (i : Nat) (hi : L[i]? = some (RRR p n s)) (hs : s.ok n) (no st f : Int) (hP : FinP s no st f s') :
    Calls Try.prog 15 #[.pointer (some ⟨p, 0, none⟩), .int .i64 no, .int .i64 st] w fun e w' => e = .returned (.int .i64 f) ∧ St w0 S0 w' (L.set i (RRR p n s')) :=
  St.call (fun w S h => RFinish_c h hs no st f hP) (RRR.ok _ _ _) H i hi
theorem Reap_o (H : St w0 S0 w L) (i : Nat) (hi : L[i]? = some (RingR p n s)) (hs : s.ok n) (d : Dsc) (f : Int) (hP : ReapP s d f s') :
    Calls Try.prog 16 #[.pointer (some ⟨p, 0, none⟩)] w fun e w' => e = .returned (.tuple #[d.v, .int .i64 f]) ∧ St w0 S0 w' (L.set i (RingR p n s')) :=
  St.call (fun w S h => Reap_c h hs d f hP) (RingR.ok _ _ _) H i hi
theorem RReap_o (H : St w0 S0 w L) (i : Nat) (hi : L[i]? = some (RRR p n s)) (hs : s.ok n) (d : Dsc) (f : Int) (hP : ReapP s d f s') :
    Calls Try.prog 17 #[.pointer (some ⟨p, 0, none⟩)] w fun e w' => e = .returned (.tuple #[d.v, .int .i64 f]) ∧ St w0 S0 w' (L.set i (RRR p n s')) :=
  St.call (fun w S h => RReap_c h hs d f hP) (RRR.ok _ _ _) H i hi
theorem Reset_o (H : St w0 S0 w L) (i : Nat) (hi : L[i]? = some (RingR p n s)) (hs : s.ok n) (m : Nat) (hm : m = s.put - s.reaped) :
    Calls Try.prog 19 #[.pointer (some ⟨p, 0, none⟩)] w fun e w' => ∃ x : Option Addr × Nat, e = .returned (.slice x.1 m x.2) ∧ St w0 S0 w' (L.set i (RingR p n RSt.new) ++ [LisR 36 9 (.slice x.1 m x.2) m (dsl (fun j => s.D (s.reaped + j)) m)]) :=
  St.call_more (R' := RingR p n RSt.new) (N := fun x : Option Addr × Nat => [LisR 36 9 (.slice x.1 m x.2) m (dsl (fun j => s.D (s.reaped + j)) m)]) (Post := fun x e => e = .returned (.slice x.1 m x.2)) (fun w S h => Reset_c h hs m hm) H i hi
theorem RReset_o (H : St w0 S0 w L) (i : Nat) (hi : L[i]? = some (RRR p n s)) (hs : s.ok n) (m : Nat) (hm : m = s.put - s.reaped) :
    Calls Try.prog 20 #[.pointer (some ⟨p, 0, none⟩)] w fun e w' => ∃ x : Option Addr × Nat, e = .returned (.slice x.1 m x.2) ∧ St w0 S0 w' (L.set i (RRR p n RSt.new) ++ [LisR 36 9 (.slice x.1 m x.2) m (dsl (fun j => s.D (s.reaped + j)) m)]) :=
  St.call_more (R' := RRR p n RSt.new) (N := fun x : Option Addr × Nat => [LisR 36 9 (.slice x.1 m x.2) m (dsl (fun j => s.D (s.reaped + j)) m)]) (Post := fun x e => e = .returned (.slice x.1 m x.2)) (fun w S h => RReset_c h hs m hm) H i hi
theorem Counts_o (H : St w0 S0 w L) (i : Nat) (hi : L[i]? = some (RingR p n s)) :
    Calls Try.prog 21 #[.pointer (some ⟨p, 0, none⟩)] w fun e w' => e = .returned (.tuple #[.int .i64 s.put, .int .i64 s.taken, .int .i64 s.reaped]) ∧ St w0 S0 w' L := by
  obtain ⟨S, h⟩ := H.get i hi
  exact looks (Counts_c h) H
theorem At_o (H : St w0 S0 w L) (i : Nat) (hi : L[i]? = some (RingR p n s)) (hs : s.ok n) (k : Int) (d : Dsc) (f : Int) (hP : AtP n s k d f) :
    Calls Try.prog 22 #[.pointer (some ⟨p, 0, none⟩), .int .i64 k] w fun e w' => e = .returned (.tuple #[d.v, .int .i64 f]) ∧ St w0 S0 w' L := by
  obtain ⟨S, h⟩ := H.get i hi
  exact looks (At_c h hs k d f hP) H
theorem RAt_o (H : St w0 S0 w L) (i : Nat) (hi : L[i]? = some (RRR p n s)) (hs : s.ok n) (k : Int) (d : Dsc) (f : Int) (hP : AtP n s k d f) :
    Calls Try.prog 23 #[.pointer (some ⟨p, 0, none⟩), .int .i64 k] w fun e w' => e = .returned (.tuple #[d.v, .int .i64 f]) ∧ St w0 S0 w' L := by
  obtain ⟨S, h⟩ := H.get i hi
  exact looks (RAt_c h hs k d f hP) H
theorem Same_c {A B : Option Addr} {m c c' : Nat} {D : Nat → Dsc} (hA : Lis w 36 9 (.slice A m c) m (dsl D m)) (hB : Lis w 36 9 (.slice B m c') m (dsl D m)) :
    Calls Try.prog 18 #[.slice A m c, .slice B m c'] w fun e w' => e = .returned (.bool true) ∧ Below w.heap.size w w' := by
  have HA := Lib.hid hA
  have HB := Lib.hid hB
  have hmx : m ≤ maxLen := by obtain ⟨_, _, _, h1, h2⟩ := hA.shape; omega
  unfold maxLen at hmx
  clear hA hB
  go_enter Try.func18, Try.ntmps18
  go_wp2_with fail
  go_loopw [5] (fun x wr => ∃ k : Nat, k ≤ m ∧ x = .int .i64 (k : Int) ∧ Below w.heap.size w wr) (fun x _ => m - (intOf x).toNat)
  case atStart => exact ⟨0, by omega, rfl, Below.refl _ _⟩
  case round =>
    obtain ⟨k, hk, rfl, hbl⟩ := hrel
    by_cases hlt : k < m
    · obtain ⟨b, off, rfl, ⟨q0, q1, q2, q3, q4, q5, q6, q7, q8⟩, -⟩ := rr9 (HA.out.keep fun g hg => hbl.block g (HA.out.lt hg)) hlt
      obtain ⟨b', off', rfl, ⟨r0, r1, r2, r3, r4, r5, r6, r7, r8⟩, -⟩ := rr9 (HB.out.keep fun g hg => hbl.block g (HB.out.lt hg)) hlt
      generalize D k = d at *
      go_wp2_with fail
      go_quiet (fail)
      go_wp2_with fail
      go_roundw
      case rel => exact ⟨k + 1, by omega, by go_num, below_drewN hbl _⟩
      case measure => simp [intOf]; omega
    · obtain rfl : k = m := by omega
      go_wp2_with fail
      go_ret
      exact ⟨rfl, hbl⟩
def d7 : Dsc := ⟨0, 7, 0, 0, 0, 0, false, false, 0⟩
def d8 : Dsc := ⟨0, 8, 0, 0, 0, 0, false, false, 0⟩
def aD1 : Nat → Dsc := setD RSt.new.D 0 d7.inR
def aD2 : Nat → Dsc := setD aD1 1 d8.inR
def aD3 : Nat → Dsc := setD aD2 0 (d7.inR.fin 5)
theorem aw1 : PutP 2 RSt.new d7 0 0 ⟨1, 0, 0, aD1⟩ := Or.inr (Or.inr ⟨by decide, by decide, rfl, rfl, rfl⟩)
theorem aw2 : PutP 2 ⟨1, 0, 0, aD1⟩ d8 1 0 ⟨2, 0, 0, aD2⟩ := Or.inr (Or.inr ⟨by decide, by decide, rfl, rfl, rfl⟩)
theorem aw3 : PutP 2 ⟨2, 0, 0, aD2⟩ dZ 0 4 ⟨2, 0, 0, aD2⟩ := Or.inr (Or.inl ⟨by decide, by decide, rfl, rfl, rfl⟩)
theorem aw4 : TakeP ⟨2, 0, 0, aD2⟩ 0 d7.inR 0 ⟨2, 1, 0, aD2⟩ := Or.inr ⟨by decide, rfl, rfl, rfl, rfl⟩
theorem aw5 : ReapP ⟨2, 1, 0, aD2⟩ dZ 10 ⟨2, 1, 0, aD2⟩ := Or.inr (Or.inl ⟨by decide, rfl, rfl, rfl, rfl⟩)
theorem aw6 : FinP ⟨2, 1, 0, aD2⟩ 0 5 0 ⟨2, 1, 0, aD3⟩ := Or.inr (Or.inr ⟨by omega, by show ((0 : Nat) : Int) ≤ 0; omega, by show (0 : Int) < ((1 : Nat) : Int); omega, rfl, rfl, rfl⟩)
theorem aw7 : ReapP ⟨2, 1, 0, aD3⟩ (d7.inR.fin 5) 0 ⟨2, 1, 1, aD3⟩ := Or.inr (Or.inr ⟨by decide, rfl, rfl, rfl, rfl⟩)
theorem aw8 : FinP ⟨2, 1, 1, aD3⟩ 1 0 12 ⟨2, 1, 1, aD3⟩ := Or.inr (Or.inl ⟨by omega, Or.inr (Or.inl (by show ((1 : Nat) : Int) ≤ 1; omega)), rfl, rfl⟩)
theorem awf (op req : Int) (h : 0 ≤ op ∧ op ≤ 1000000) (h2 : 0 ≤ req ∧ req ≤ 1000000) : (⟨op, req, 0, 0, 0, 0, false, false, 0⟩ : Dsc).fits := by
  unfold Dsc.fits; dsimp only; omega
theorem awake_o (H : St w0 S0 w L) : Calls Try.prog 8 #[] w fun e w' => e = .returned (.bool true) ∧ St w0 S0 w' L := by
  suffices h : Calls Try.prog 8 #[] w fun e w' => e = .returned (.bool true) ∧ Below w.heap.size w w' from looks h H
  have ok2 : ∀ (t r : Nat) D, r ≤ t → t ≤ 2 → (⟨2, t, r, D⟩ : RSt).ok 2 := fun t r D h1 h2 => ⟨h1, h2, by show 2 ≤ r + 2; omega, by show 2 ≤ 1000000; omega, by omega, by omega⟩
  have OK2 := Lib.hid ok2
  have H := Lib.hid (St.begin w)
  clear ok2
  go_enter Try.func8, Try.ntmps8
  go_wp2_with fail
  refine (New_o (n := 2) H.out (by omega) (by omega)).mono ?_
  rintro e w1 ⟨p, rfl, s1'⟩
  have s1 : St w None w1 [RingR p 2 RSt.new] := s1'
  have S1 := Lib.hid s1
  clear s1 s1' H
  go_wp2_with fail
  refine (Put_o S1.out 0 rfl (RSt.new_ok (by omega) (by omega)) d7 (awf 0 7 (by omega) (by omega)) 0 0 aw1 (by decide)).mono ?_
  rintro e w2 ⟨rfl, s2⟩
  have S2 := Lib.hid s2
  clear S1 s2
  go_wp2_with fail
  refine (Put_o S2.out 0 rfl ⟨by decide, by decide, by decide, by decide, by omega, by omega⟩ d8 (awf 0 8 (by omega) (by omega)) 1 0 aw2 (by decide)).mono ?_
  rintro e w3 ⟨rfl, s3⟩
  have S3 := Lib.hid s3
  clear S2 s3
  go_wp2_with fail
  refine (Put_o S3.out 0 rfl (OK2.out 0 0 _ (by omega) (by omega)) dZ (awf 0 0 (by omega) (by omega)) 0 4 aw3 (by decide)).mono ?_
  rintro e w4 ⟨rfl, s4⟩
  have S4 := Lib.hid s4
  clear S3 s4
  go_wp2_with fail
  refine (Take_o S4.out 0 rfl (OK2.out 0 0 _ (by omega) (by omega)) 0 0 d7.inR aw4).mono ?_
  rintro e w5 ⟨rfl, s5⟩
  have s6 : St w None (w5.alloc (.cells d7.inR.cells 36)) [RingR p 2 ⟨2, 1, 0, aD2⟩, BlkR w5.heap.size 36 d7.inR.cells] := St.box (L := [_]) s5 _ _
  have S6 := Lib.hid s6
  clear S4 s5 s6
  dsimp only [Dsc.v, Dsc.inR, d7]
  go_wp2_with fail
  refine (Reap_o S6.out 0 rfl (OK2.out 1 0 _ (by omega) (by omega)) dZ 10 aw5).mono ?_
  rintro e w7 ⟨rfl, s7⟩
  have s8 : St w None (w7.alloc (.cells dZ.cells 36)) [RingR p 2 ⟨2, 1, 0, aD2⟩, BlkR w5.heap.size 36 d7.inR.cells, BlkR w7.heap.size 36 dZ.cells] := St.box (L := [_, _]) s7 _ _
  have S8 := Lib.hid s8
  clear S6 s7 s8
  dsimp only [Dsc.v, dZ]
  go_wp2_with fail
  refine (Finish_o S8.out 0 rfl (OK2.out 1 0 _ (by omega) (by omega)) 0 5 0 aw6).mono ?_
  rintro e w9 ⟨rfl, s9⟩
  have S9 := Lib.hid s9
  clear S8 s9
  go_wp2_with fail
  refine (Reap_o S9.out 0 rfl (OK2.out 1 0 _ (by omega) (by omega)) (d7.inR.fin 5) 0 aw7).mono ?_
  rintro e w10 ⟨rfl, s10⟩
  have s11 : St w None (w10.alloc (.cells (d7.inR.fin 5).cells 36)) [RingR p 2 ⟨2, 1, 1, aD3⟩, BlkR w5.heap.size 36 d7.inR.cells, _, BlkR w10.heap.size 36 (d7.inR.fin 5).cells] := St.box (L := [_, _, _]) s10 _ _
  have qa := dsc9 _ _ _ (s11.blk 1 rfl)
  have qb := dsc9 _ _ _ (s11.blk 3 rfl)
  dsimp only [Dsc.inR, d7, Dsc.fin, Dsc.cells] at qa qb
  obtain ⟨q0, q1, q2, q3, q4, q5, q6, q7, q8⟩ := qa
  obtain ⟨r0, r1, r2, r3, r4, r5, r6, r7, r8⟩ := qb
  have S11 := Lib.hid s11
  clear S9 s10 s11
  dsimp only [Dsc.v, Dsc.inR, d7, Dsc.fin]
  go_wp2_with fail
  refine (Finish_o S11.out 0 rfl (OK2.out 1 1 _ (by omega) (by omega)) 1 0 12 aw8).mono ?_
  rintro e w12 ⟨rfl, s12⟩
  go_wp2_with fail
  go_ret
  exact ⟨rfl, s12.below⟩
end
end Go.Proofs.Ytboepnfekfhppaa
