/- Layer 3: a heap's steps. Printed by bin/genHeapD.py. -/
import Derived.Test.YtncoeoccdimgoaaHeapC
namespace Go.Proofs.Ytncoeoccdimgoaa
open Go.RowKit
set_option linter.unusedVariables false
set_option maxRecDepth 100000
set_option maxHeartbeats 1000000
def HXR (h b off c pb n k : Nat) (a : Nat → Mem) (pl : Nat → Int) : Res := Star (HL h b off c pb n k a pl)
theorem HXR.ok (h b off c pb n k : Nat) (a : Nat → Mem) (pl : Nat → Int) : Ok (HXR h b off c pb n k a pl) := Star.ok _
/-- A heap in memory, with all its places right. -/
def HSR (h b off c pb n k : Nat) (a : Nat → Mem) : Res := fun w S => ∃ pl, PL n a k pl ∧ Star (HL h b off c pb n k a pl) w S
theorem HSR.ok (h b off c pb n k : Nat) (a : Nat → Mem) : Ok (HSR h b off c pb n k a) :=
  ⟨fun ⟨pl, _, h⟩ b hb => (Star.ok _).lt h b hb, fun ⟨pl, hp, h⟩ hk => ⟨pl, hp, (Star.ok _).frame h hk⟩⟩
section
variable {w0 w : World} {S S0 : Nat → Prop} {N L : List Res} {h b off c pb n k : Nat} {a : Nat → Mem} {pl : Nat → Int}
theorem lay_o (H : St w0 S0 w L) (q : Nat) (hq : L[q]? = some (HXR h b off c pb n k a pl)) {p : Nat} (hp : p < k) (x : Mem) (hx : x.1 < n) (hn : n ≤ 1000) :
    Calls Try.prog 24 #[.pointer (some ⟨h, 0, none⟩), .int .i64 (p : Nat), .agg #[.int .i64 (x.1 : Nat), .int .u64 x.2]] w fun e w' => e = .returned (.tuple #[]) ∧ St w0 S0 w' (L.set q (HXR h b off c pb n k (updm a p x) (updp pl x.1 p))) :=
  St.call (fun w S s => lay_c s hp x hx hn) (HXR.ok _ _ _ _ _ _ _ _ _) H q hq
theorem less_o (H : St w0 S0 w L) (q : Nat) (hq : L[q]? = some (HSR h b off c pb n k a)) {i j : Nat} (hi : i < k) (hj : j < k) (r : Bool) (hr : r = decide (hlt (a i) (a j))) :
    Calls Try.prog 30 #[.pointer (some ⟨h, 0, none⟩), .int .i64 (i : Nat), .int .i64 (j : Nat)] w fun e w' => e = .returned (.bool r) ∧ St w0 S0 w' L := by
  obtain ⟨S, pl, _, hs⟩ := H.get q hq
  exact looks (less_c hs hi hj r hr) H
theorem swap_c (s : HSR h b off c pb n k a w S) {i j : Nat} (hi : i < k) (hj : j < k) (hn : n ≤ 1000) :
    Calls Try.prog 31 #[.pointer (some ⟨h, 0, none⟩), .int .i64 (i : Nat), .int .i64 (j : Nat)] w fun e w' => e = .returned (.tuple #[]) ∧ ∃ S', HSR h b off c pb n k (sw a i j) w' S' ∧ Did S S' w w' := by
  obtain ⟨pl, hp, s⟩ := s
  have s0 : St w S w (HL h b off c pb n k a pl ++ []) := St.start (by rw [List.append_nil]; exact s)
  have hh := (heap_h s0).1
  have ci := heap_at s0 hi
  have cj := heap_at s0 hj
  have hc := heap_cap s0
  unfold maxLen at hc
  obtain ⟨ci0, ci1⟩ := ci
  obtain ⟨cj0, cj1⟩ := cj
  have S0' := Lib.hid (St.start (Star.one (HXR.ok h b off c pb n k a pl) s))
  have hxi := (hp.at' i hi).1
  have hxj := (hp.at' j hj).1
  have HP := Lib.hid (hp.sw hi hj)
  clear s0 s hp
  have bi : (i : Int) < (k : Int) := by omega
  have bj : (j : Int) < (k : Int) := by omega
  go_enter Try.func31, Try.ntmps31
  go_wp2_with fail
  obtain ⟨A10, A11⟩ := two_alloc hh 58
  obtain ⟨A20, A21⟩ := two_alloc ci0 58
  obtain ⟨A30, A31⟩ := two_alloc ci1 58
  obtain ⟨A40, A41⟩ := two_alloc cj0 58
  obtain ⟨A50, A51⟩ := two_alloc cj1 58
  go_region
  all_goals clear A10 A11 A20 A21 A30 A31 A40 A41 A50 A51 hh ci0 ci1 cj0 cj1
  case _ =>
    have s1 : St w S (((w.alloc (.cells #[.int .i64 ((a i).1 : Nat), .int .u64 (a i).2] 58)).alloc (.cells #[.int .i64 ((a j).1 : Nat), .int .u64 (a j).2] 58)).drew) [HXR h b off c pb n k a pl, BlkR w.heap.size 58 #[.int .i64 ((a i).1 : Nat), .int .u64 (a i).2], BlkR (w.heap.size + 1) 58 #[.int .i64 ((a j).1 : Nat), .int .u64 (a j).2]] := by
      have t := ((S0'.out.box 58 #[.int .i64 ((a i).1 : Nat), .int .u64 (a i).2]).box 58 #[.int .i64 ((a j).1 : Nat), .int .u64 (a j).2]).drew
      rw [show (w.alloc (.cells #[.int .i64 ((a i).1 : Nat), .int .u64 (a i).2] 58)).heap.size = w.heap.size + 1 by simp] at t
      exact t
    have b1 := (s1.blk 1 rfl).two
    have b2 := (s1.blk 2 rfl).two
    obtain ⟨b10, b11⟩ := b1
    obtain ⟨b20, b21⟩ := b2
    have S1 := Lib.hid s1
    clear s1
    go_wp2_with fail
    refine (lay_o S1.out 0 rfl hi (a j) hxj hn).mono ?_
    rintro e w1 ⟨rfl, s2⟩
    have b3 := (s2.blk 1 rfl).two
    obtain ⟨b30, b31⟩ := b3
    have S2 := Lib.hid s2
    clear s2 b10 b11 b20 b21 S1
    go_wp2_with fail
    refine (lay_o S2.out 0 rfl hj (a i) hxi hn).mono ?_
    rintro e w2 ⟨rfl, s3⟩
    have S3 := Lib.hid (s3.take 1)
    clear s3 b30 b31 S2
    go_wp2_with fail
    go_end0
    exact ⟨rfl, S3.out.fin fun S' h => ⟨_, HP.out, star_one h⟩⟩
  case _ =>
    have s1 : St w S (((w.alloc (.cells #[.int .i64 ((a j).1 : Nat), .int .u64 (a j).2] 58)).alloc (.cells #[.int .i64 ((a i).1 : Nat), .int .u64 (a i).2] 58)).drew) [HXR h b off c pb n k a pl, BlkR (w.heap.size + 1) 58 #[.int .i64 ((a i).1 : Nat), .int .u64 (a i).2], BlkR w.heap.size 58 #[.int .i64 ((a j).1 : Nat), .int .u64 (a j).2]] := by
      have t := ((S0'.out.box 58 #[.int .i64 ((a j).1 : Nat), .int .u64 (a j).2]).box 58 #[.int .i64 ((a i).1 : Nat), .int .u64 (a i).2]).drew
      rw [show (w.alloc (.cells #[.int .i64 ((a j).1 : Nat), .int .u64 (a j).2] 58)).heap.size = w.heap.size + 1 by simp] at t
      exact t.swap12
    have b1 := (s1.blk 1 rfl).two
    have b2 := (s1.blk 2 rfl).two
    obtain ⟨b10, b11⟩ := b1
    obtain ⟨b20, b21⟩ := b2
    have S1 := Lib.hid s1
    clear s1
    go_wp2_with fail
    refine (lay_o S1.out 0 rfl hi (a j) hxj hn).mono ?_
    rintro e w1 ⟨rfl, s2⟩
    have b3 := (s2.blk 1 rfl).two
    obtain ⟨b30, b31⟩ := b3
    have S2 := Lib.hid s2
    clear s2 b10 b11 b20 b21 S1
    go_wp2_with fail
    refine (lay_o S2.out 0 rfl hj (a i) hxi hn).mono ?_
    rintro e w2 ⟨rfl, s3⟩
    have S3 := Lib.hid (s3.take 1)
    clear s3 b30 b31 S2
    go_wp2_with fail
    go_end0
    exact ⟨rfl, S3.out.fin fun S' h => ⟨_, HP.out, star_one h⟩⟩
theorem swap_o (H : St w0 S0 w L) (q : Nat) (hq : L[q]? = some (HSR h b off c pb n k a)) {i j : Nat} (hi : i < k) (hj : j < k) (hn : n ≤ 1000) :
    Calls Try.prog 31 #[.pointer (some ⟨h, 0, none⟩), .int .i64 (i : Nat), .int .i64 (j : Nat)] w fun e w' => e = .returned (.tuple #[]) ∧ St w0 S0 w' (L.set q (HSR h b off c pb n k (sw a i j))) :=
  St.call (fun w S s => swap_c s hi hj hn) (HSR.ok _ _ _ _ _ _ _ _) H q hq
end
end Go.Proofs.Ytncoeoccdimgoaa
