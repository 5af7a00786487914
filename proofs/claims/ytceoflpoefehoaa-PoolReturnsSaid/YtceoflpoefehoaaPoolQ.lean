/- Layer 7: the answers that the document fixes are the program's. -/
import Derived.Test.YtceoflpoefehoaaPoolP
namespace Go.Proofs.Ytceoflpoefehoaa
open Go.RowKit
set_option linter.unusedVariables false
set_option maxRecDepth 100000
set_option maxHeartbeats 1000000
def z2 (j : Nat) : Int := [(4 : Int), 16].getD j 0
def o2 (j : Nat) : Int := 1
theorem may2 : mayC 2 z2 o2 := by decide
theorem flat2 : flatC z2 o2 2 = [4, 16] := by decide
def a0 : Nat → Buf := fresh [4, 16]
def a1 : Nat → Buf := updB a0 0 (got (a0 0))
def a2 : Nat → Buf := updB a1 1 (got (a1 1))
def a3 : Nat → Buf := updB a2 0 { a2 0 with owner := 3 }
def a4 : Nat → Buf := updB a3 1 { a3 1 with refs := 0, owner := 0, gen := 2 }
theorem ok2 {st : Nat → Buf} (h0 : (st 0).ok 2) (h1 : (st 1).ok 2) : POK 2 st 2 := ⟨by omega, by omega, by omega, fun i hi => by
  rcases (show i = 0 ∨ i = 1 by omega) with rfl | rfl
  · exact h0
  · exact h1⟩
instance (G : Int) (b : Buf) : Decidable (b.ok G) := by unfold Buf.ok; infer_instance
theorem ok_a0 : POK 2 a0 2 := ok2 (by decide) (by decide)
theorem ok_a1 : POK 2 a1 2 := ok2 (by decide) (by decide)
theorem ok_a2 : POK 2 a2 2 := ok2 (by decide) (by decide)
theorem ok_a3 : POK 2 a3 2 := ok2 (by decide) (by decide)
theorem ok_a4 : POK 2 a4 2 := ok2 (by decide) (by decide)
theorem g1 : GetP 2 a0 3 0 1 0 a1 := Or.inr (Or.inr ⟨by decide, 0, by decide, fun j h => absurd h (by omega), ⟨by decide, by decide⟩, rfl, by decide, rfl, rfl⟩)
theorem g2 : GetP 2 a1 3 1 1 0 a2 := Or.inr (Or.inr ⟨by decide, 1, by decide, fun j h => by
  obtain rfl : j = 0 := by omega
  exact fun hh => absurd hh.1 (by decide), ⟨by decide, by decide⟩, rfl, by decide, rfl, rfl⟩)
theorem g3 : GetP 2 a2 3 0 0 5 a2 := Or.inr (Or.inl ⟨by decide, fun j h => by
  rcases (show j = 0 ∨ j = 1 by omega) with rfl | rfl
  · exact fun hh => absurd hh.1 (by decide)
  · exact fun hh => absurd hh.1 (by decide), rfl, rfl, rfl, rfl⟩)
theorem v1 : Via 2 a2 0 1 (GiveB 1 3) 0 a3 := Or.inr ⟨0, _, by decide, rfl, by decide, by decide, Or.inr (Or.inr ⟨by decide, by decide, rfl, rfl⟩), rfl⟩
theorem v2 : Via 2 a3 0 1 (WriteB 1 0 [1]) 8 a3 := Or.inr ⟨0, _, by decide, rfl, by decide, by decide, Or.inr (Or.inl ⟨by decide, by decide, rfl, rfl⟩), (updB_id _ _).symm⟩
theorem v3 : Via 2 a3 0 1 DropB 8 a3 := Or.inr ⟨0, _, by decide, rfl, by decide, by decide, Or.inl ⟨by decide, rfl, rfl⟩, (updB_id _ _).symm⟩
theorem v4 : Via 2 a3 1 1 DropB 0 a4 := Or.inr ⟨1, _, by decide, rfl, by decide, by decide, Or.inr (Or.inr ⟨by decide, by decide, rfl, rfl⟩), rfl⟩
theorem v5 : Via 2 a4 1 1 DropB 3 a4 := Or.inl ⟨by decide, rfl, rfl⟩
theorem f1 : 1 = frees a4 2 := by decide
section
variable {w0 w : World} {S S0 : Nat → Prop} {N L : List Res}
theorem awake_any (w : World) : Calls Try.prog 8 #[] w fun e w' => e = .returned (.bool true) ∧ Below w.heap.size w w' := by
  have s0 : St w None _ [_] := (St.begin w).box 51 #[.int .i64 4, .int .i64 1, .int .i64 16, .int .i64 1]
  have NW := new_o s0 (rdm_blk (k := 2) (m := 2) (s0.blk 0 rfl) rfl) (Z := z2) (C := o2) (cap := 2) (fun j hj => by
    rcases (show j = 0 ∨ j = 1 by omega) with rfl | rfl <;> refine ⟨rfl, rfl, ?_, ?_⟩ <;> decide) may2
  rw [flat2] at NW
  have HN := Lib.hid NW
  clear NW s0
  go_enter Try.func8, Try.ntmps8
  go_wp2_with fail
  refine HN.out.mono ?_
  rintro e w1 ⟨p, rfl, s1'⟩
  have s1 : St w None w1 [_, PoolR p 2 a0] := s1'
  clear s1' HN
  go_wp2_with fail
  refine (get_o s1 1 rfl ok_a0 g1).mono ?_
  rintro e w2 ⟨rfl, s2'⟩
  have s2 : St w None _ [_, PoolR p 2 a1, BlkR _ 34 #[.int .i64 0, .int .u64 1]] := s2'.box 34 #[.int .i64 0, .int .u64 1]
  clear s1 s2'
  go_wp2_with fail
  refine (get_o s2 1 rfl ok_a1 g2).mono ?_
  rintro e w3 ⟨rfl, s3'⟩
  have s3 : St w None _ [_, PoolR p 2 a2, BlkR w2.heap.size 34 #[.int .i64 0, .int .u64 1], BlkR _ 34 #[.int .i64 1, .int .u64 1]] := s3'.box 34 #[.int .i64 1, .int .u64 1]
  clear s2 s3'
  generalize w2.heap.size = h2 at *
  go_wp2_with fail
  refine (get_o s3 1 rfl ok_a2 g3).mono ?_
  rintro e w4 ⟨rfl, s4'⟩
  have s4 : St w None (w4.alloc (.cells #[.int .i64 0, .int .u64 0] 34)) [_, PoolR p 2 a2, BlkR h2 34 #[.int .i64 0, .int .u64 1], BlkR w3.heap.size 34 #[.int .i64 1, .int .u64 1]] := s4'.alloc _
  clear s3 s4'
  generalize w3.heap.size = h3 at *
  obtain ⟨c0, c1⟩ := (s4.blk 2 rfl).two
  have V1 := Lib.hid (give_o s4 1 rfl ok_a2 v1)
  clear s4
  go_wp2_with fail
  refine V1.out.mono ?_
  rintro e w5 ⟨rfl, s5'⟩
  have s5 : St w None (w5.alloc (.cells #[.int .u8 1] 5)) [_, PoolR p 2 a3, BlkR h2 34 #[.int .i64 0, .int .u64 1], BlkR h3 34 #[.int .i64 1, .int .u64 1]] := s5'.alloc _
  have c2 : w5.cell? ⟨h2, 0, none⟩ = some (.int .i64 0) := (s5'.blk 2 rfl).two.1
  have c3 : w5.cell? ⟨h2, 1, none⟩ = some (.int .u64 1) := (s5'.blk 2 rfl).two.2
  have V2 := Lib.hid (write_o s5 1 rfl ok_a3 v2 (A := some ⟨w5.heap.size, 0, none⟩) (cp := 1) (by simp [maxLen]) (rds_box w5 5 (.int .u8 1)))
  clear s5 s5' V1 c0 c1
  go_wp2_with fail
  refine V2.out.mono ?_
  rintro e w6 ⟨rfl, s6'⟩
  have s6 : St w None w6 [_, PoolR p 2 a3, BlkR h2 34 #[.int .i64 0, .int .u64 1], BlkR h3 34 #[.int .i64 1, .int .u64 1]] := s6'
  obtain ⟨d0, d1⟩ := (s6.blk 2 rfl).two
  obtain ⟨d2, d3⟩ := (s6.blk 3 rfl).two
  have V3 := Lib.hid (drop_o s6 1 rfl ok_a3 v3)
  clear s6 s6' V2 c2 c3
  go_wp2_with fail
  refine V3.out.mono ?_
  rintro e w7 ⟨rfl, s7'⟩
  have s7 : St w None w7 [_, PoolR p 2 a3, BlkR h2 34 #[.int .i64 0, .int .u64 1], BlkR h3 34 #[.int .i64 1, .int .u64 1]] := s7'
  clear d0 d1 d2 d3 V3
  obtain ⟨d2, d3⟩ := (s7.blk 3 rfl).two
  have V4 := Lib.hid (drop_o s7 1 rfl ok_a3 v4)
  clear s7 s7'
  go_wp2_with fail
  refine V4.out.mono ?_
  rintro e w8 ⟨rfl, s8'⟩
  have s8 : St w None w8 [_, PoolR p 2 a4, BlkR h2 34 #[.int .i64 0, .int .u64 1], BlkR h3 34 #[.int .i64 1, .int .u64 1]] := s8'
  clear d2 d3 V4
  obtain ⟨d2, d3⟩ := (s8.blk 3 rfl).two
  have V5 := Lib.hid (drop_o s8 1 rfl ok_a4 v5)
  clear s8 s8'
  go_wp2_with fail
  refine V5.out.mono ?_
  rintro e w9 ⟨rfl, s9'⟩
  have s9 : St w None w9 [_, PoolR p 2 a4, _, _] := s9'
  clear V5 d2 d3 s9'
  go_wp2_with fail
  refine (free_o s9 1 rfl ok_a4 1 f1).mono ?_
  rintro e w10 ⟨rfl, s10'⟩
  have s10 : St w None w10 [_, PoolR p 2 a4, _, _] := s10'
  clear s9 s10'
  go_wp2_with fail
  refine (count_o s10 1 rfl).mono ?_
  rintro e w11 ⟨rfl, s11⟩
  go_wp2_with fail
  go_ret
  exact ⟨rfl, s11.below⟩
theorem awake_o (H : St w0 S0 w L) : Calls Try.prog 8 #[] w fun e w' => e = .returned (.bool true) ∧ St w0 S0 w' L := looks (awake_any w) H
end
end Go.Proofs.Ytceoflpoefehoaa
