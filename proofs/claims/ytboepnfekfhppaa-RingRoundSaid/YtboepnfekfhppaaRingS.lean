/- Layer 10: the document's own ring: Take, Reap. -/
import Derived.Test.YtboepnfekfhppaaRingR
import Derived.BigRegion
import Derived.Deep.DeepCutAuto
namespace Go.Proofs.Ytboepnfekfhppaa
open Go.RowKit
set_option linter.unusedVariables false
set_option maxRecDepth 100000
set_option maxHeartbeats 1000000
section
variable {w0 w : World} {S0 S : Nat → Prop} {L : List Res} {p n : Nat} {s s' : RSt}
theorem RTake_c (h : RRR p n s w S) (hs : s.ok n) (a f : Int) (d : Dsc) (hP : TakeP s a d f s') :
    Calls Try.prog 13 #[.pointer (some ⟨p, 0, none⟩)] w fun e w' => e = .returned (.tuple #[.int .i64 a, d.v, .int .i64 f]) ∧ ∃ S', RRR p n s' w' S' ∧ Did S S' w w' := by
  obtain ⟨A, c, hr⟩ := h
  have sb : St w S (w.alloc (.cells #[.int .i64 0, .int .i64 0, .int .i64 0, .int .u64 0, .int .i64 0, .int .i64 0, .bool false, .bool false, .int .i64 0] 36)) [BlkR p 31 #[.int .i64 n, .slice A s.put c, .int .i64 s.taken, .int .i64 s.reaped], LisR 36 9 (.slice A s.put c) s.put (dsl s.D s.put), BlkR w.heap.size 36 dZ.cells] := (St.start hr).box 36 dZ.cells
  have HS := Lib.hid hs
  have hm := hs.m
  have ht := hs.t
  obtain ⟨w1, hw1⟩ : ∃ x, w.alloc (.cells #[.int .i64 0, .int .i64 0, .int .i64 0, .int .u64 0, .int .i64 0, .int .i64 0, .bool false, .bool false, .int .i64 0] 36) = x := ⟨_, rfl⟩
  rw [hw1] at sb
  have HW1 := Lib.hid hw1
  obtain ⟨k0, k1, k2, k3⟩ := rr4 (sb.blk 0 rfl)
  obtain ⟨T, hT⟩ : ∃ P : Int, (s.taken : Int) = P := ⟨_, rfl⟩
  rw [hT] at k2
  have SB := Lib.hid sb
  clear hr hs sb hw1
  go_enter Try.func13, Try.ntmps13
  go_wp2_with fail
  rw [HW1.out]
  rcases hP with ⟨hx, rfl, rfl, rfl, rfl⟩ | ⟨hx, rfl, rfl, rfl, rfl⟩
  · have z1 : (T == (s'.put : Int)) = true := beq_iff_eq.2 (by omega)
    clear hT hx
    go_quiet (fail)
    have s2 := SB.out.drewN nq
    generalize w1.drewN nq = w2 at *
    obtain ⟨c0, c1, c2, c3, c4, c5, c6, c7, c8⟩ := dsc9 dZ _ w.heap.size (s2.blk 2 rfl)
    obtain ⟨z0, z1, z2, z3, z4, z5, z6, z7, z8⟩ := frz9 (s2.blk 2 rfl)
    have S2 := Lib.hid s2
    clear s2
    go_wp2_with fail
    refine bodyPost_ret (v := .tuple #[.int .i64 0, dZ.v, .int .i64 5]) ?_ rfl ⟨rfl, ?_⟩
    · simp [results, go_sem, Dsc.v, dZ, c0, c1, c2, c3, c4, c5, c6, c7, c8]
    · exact ((((((((((S2.out.set_ 2 rfl 0 _).set_ 2 rfl 1 _).set_ 2 rfl 2 _).set_ 2 rfl 3 _).set_ 2 rfl 4 _).set_ 2 rfl 5 _).set_ 2 rfl 6 _).set_ 2 rfl 7 _).set_ 2 rfl 8 _).take 2).fin fun S' h => ⟨A, c, h⟩
  · have z1 : (T == (s.put : Int)) = false := beq_eq_false_iff_ne.2 (by omega)
    have b0 : 0 ≤ T ∧ T ≤ 1000000 := by omega
    go_quiet (fail)
    have s2 := SB.out.drewN nq
    generalize w1.drewN nq = w2 at *
    clear k0 k1 k2 k3
    obtain ⟨k0, k1, k2, k3⟩ := rr4 (s2.blk 0 rfl)
    rw [hT] at k2
    have f2 := (s2.blk 0 rfl).frozen 2
    have s3 : St w S (w2.setCell ⟨p, 2, none⟩ (.int .i64 (T + 1))) [BlkR p 31 #[.int .i64 n, .slice A s.put c, .int .i64 (T + 1), .int .i64 s.reaped], LisR 36 9 (.slice A s.put c) s.put (dsl s.D s.put), BlkR w.heap.size 36 dZ.cells] := s2.set_ 0 rfl 2 (.int .i64 (T + 1))
    have S3 := Lib.hid s3
    clear s2 s3
    go_wp2_with fail
    clear k0 k1 k2 k3 f2
    have s4 := S3.out
    have s3 := S3.out
    generalize w2.setCell ⟨p, 2, none⟩ (.int .i64 (T + 1)) = w3 at *
    rw [show T + 1 = ((s.taken + 1 : Nat) : Int) by omega] at s4
    obtain ⟨k0, k1, k2, k3⟩ := (s3.blk 0 rfl).four
    obtain ⟨X, hX⟩ : ∃ X, T + 1 = X := ⟨_, rfl⟩
    rw [hX] at k2
    have w6 : wrap64 (X - 1) = (s.taken : Int) := by rw [IntWalk.wrap64_in _ ⟨by omega, by omega⟩]; omega
    have w7 : IntKind.i64.wrap (X - 1) = (s.taken : Int) := by rw [IntWalk.i64_in _ ⟨by omega, by omega⟩]; omega
    obtain ⟨b, off, rfl, ⟨q0, q1, q2, q3, q4, q5, q6, q7, q8⟩, -⟩ := rr9 (s3.lis 1 rfl) hx
    obtain ⟨c0, c1, c2, c3, c4, c5, c6, c7, c8⟩ := dsc9 dZ _ w.heap.size (s3.blk 2 rfl)
    obtain ⟨z0, z1, z2, z3, z4, z5, z6, z7, z8⟩ := frz9 (s3.blk 2 rfl)
    obtain ⟨d, hd⟩ : ∃ d, s.D s.taken = d := ⟨_, rfl⟩
    rw [hd] at q0 q1 q2 q3 q4 q5 q6 q7 q8
    have HD := Lib.hid hd
    have HT := Lib.hid hT
    have HX := Lib.hid hX
    have S4 := Lib.hid s4
    clear s3 s4 S3 hd hT hX
    go_region
    all_goals
      go_wp2_with fail
      refine bodyPost_ret (v := .tuple #[.int .i64 s.taken, d.v, .int .i64 0]) ?_ rfl ⟨by rw [HD.out], ?_⟩
      · simp [results, go_sem, Dsc.v, c0, c1, c2, c3, c4, c5, c6, c7, c8]
      · exact ((((((((((S4.out.set_ 2 rfl 0 _).set_ 2 rfl 1 _).set_ 2 rfl 2 _).set_ 2 rfl 3 _).set_ 2 rfl 4 _).set_ 2 rfl 5 _).set_ 2 rfl 6 _).set_ 2 rfl 7 _).set_ 2 rfl 8 _).drew.take 2).fin fun S' h => ⟨_, c, h⟩
theorem RReap_c (h : RRR p n s w S) (hs : s.ok n) (d : Dsc) (f : Int) (hP : ReapP s d f s') :
    Calls Try.prog 17 #[.pointer (some ⟨p, 0, none⟩)] w fun e w' => e = .returned (.tuple #[d.v, .int .i64 f]) ∧ ∃ S', RRR p n s' w' S' ∧ Did S S' w w' := by
  obtain ⟨A, c, hr⟩ := h
  have sb : St w S (w.alloc (.cells #[.int .i64 0, .int .i64 0, .int .i64 0, .int .u64 0, .int .i64 0, .int .i64 0, .bool false, .bool false, .int .i64 0] 36)) [BlkR p 31 #[.int .i64 n, .slice A s.put c, .int .i64 s.taken, .int .i64 s.reaped], LisR 36 9 (.slice A s.put c) s.put (dsl s.D s.put), BlkR w.heap.size 36 dZ.cells] := (St.start hr).box 36 dZ.cells
  have HS := Lib.hid hs
  have hm := hs.m
  have ht : s.reaped ≤ s.put := Nat.le_trans hs.r hs.t
  obtain ⟨w1, hw1⟩ : ∃ x, w.alloc (.cells #[.int .i64 0, .int .i64 0, .int .i64 0, .int .u64 0, .int .i64 0, .int .i64 0, .bool false, .bool false, .int .i64 0] 36) = x := ⟨_, rfl⟩
  rw [hw1] at sb
  have HW1 := Lib.hid hw1
  obtain ⟨k0, k1, k2, k3⟩ := rr4 (sb.blk 0 rfl)
  obtain ⟨T, hT⟩ : ∃ P : Int, (s.reaped : Int) = P := ⟨_, rfl⟩
  rw [hT] at k3
  have SB := Lib.hid sb
  clear hr hs sb hw1
  go_enter Try.func17, Try.ntmps17
  go_wp2_with fail
  rw [HW1.out]
  by_cases hx : s.reaped = s.put
  · obtain ⟨rfl, rfl, rfl⟩ : d = dZ ∧ f = 5 ∧ s' = s := by
      rcases hP with ⟨_, h⟩ | ⟨h, _⟩ | ⟨h, _⟩
      · exact h
      · omega
      · omega
    have z1 : (T == (s'.put : Int)) = true := beq_iff_eq.2 (by omega)
    clear hP hT hx
    go_quiet (fail)
    have s2 := SB.out.drewN nq
    generalize w1.drewN nq = w2 at *
    obtain ⟨c0, c1, c2, c3, c4, c5, c6, c7, c8⟩ := dsc9 dZ _ w.heap.size (s2.blk 2 rfl)
    obtain ⟨z0, z1, z2, z3, z4, z5, z6, z7, z8⟩ := frz9 (s2.blk 2 rfl)
    have S2 := Lib.hid s2
    clear s2
    go_wp2_with fail
    refine bodyPost_ret (v := .tuple #[dZ.v, .int .i64 5]) ?_ rfl ⟨rfl, ?_⟩
    · simp [results, go_sem, Dsc.v, dZ, c0, c1, c2, c3, c4, c5, c6, c7, c8]
    · exact ((((((((((S2.out.set_ 2 rfl 0 _).set_ 2 rfl 1 _).set_ 2 rfl 2 _).set_ 2 rfl 3 _).set_ 2 rfl 4 _).set_ 2 rfl 5 _).set_ 2 rfl 6 _).set_ 2 rfl 7 _).set_ 2 rfl 8 _).take 2).fin fun S' h => ⟨A, c, h⟩
  have hlt : s.reaped < s.put := by omega
  have z1 : (T == (s.put : Int)) = false := beq_eq_false_iff_ne.2 (by omega)
  have b0 : 0 ≤ T ∧ T ≤ 1000000 := by omega
  have hcase : ((s.D s.reaped).dn = false ∧ d = dZ ∧ f = 10 ∧ s' = s) ∨ ((s.D s.reaped).dn = true ∧ d = s.D s.reaped ∧ f = 0 ∧ s' = ⟨s.put, s.taken, s.reaped + 1, s.D⟩) := by
    rcases hP with ⟨h, _⟩ | ⟨_, h⟩ | ⟨_, h⟩
    · omega
    · exact Or.inl h
    · exact Or.inr h
  clear hP
  go_quiet (fail)
  have s2 := SB.out.drewN nq
  generalize w1.drewN nq = w2 at *
  clear k0 k1 k2 k3
  obtain ⟨k0, k1, k2, k3⟩ := rr4 (s2.blk 0 rfl)
  obtain ⟨b, off, rfl, ⟨q0, q1, q2, q3, q4, q5, q6, q7, q8⟩, -⟩ := rr9 (s2.lis 1 rfl) hlt
  have S2 := Lib.hid s2
  clear s2 hT
  rcases hcase with ⟨hdn, rfl, rfl, rfl⟩ | ⟨hdn, rfl, rfl, rfl⟩
  · rw [hdn] at q7
    have HDN := Lib.hid hdn
    clear hdn
    go_wp2_with fail
    go_quiet (fail)
    have s3 := S2.out.drewN nq
    generalize w2.drewN nq = w3 at *
    obtain ⟨c0, c1, c2, c3, c4, c5, c6, c7, c8⟩ := dsc9 dZ _ w.heap.size (s3.blk 2 rfl)
    obtain ⟨z0, z1, z2, z3, z4, z5, z6, z7, z8⟩ := frz9 (s3.blk 2 rfl)
    have S3 := Lib.hid s3
    clear s3
    go_wp2_with fail
    refine bodyPost_ret (v := .tuple #[dZ.v, .int .i64 10]) ?_ rfl ⟨rfl, ?_⟩
    · simp [results, go_sem, Dsc.v, dZ, c0, c1, c2, c3, c4, c5, c6, c7, c8]
    · exact ((((((((((S3.out.set_ 2 rfl 0 _).set_ 2 rfl 1 _).set_ 2 rfl 2 _).set_ 2 rfl 3 _).set_ 2 rfl 4 _).set_ 2 rfl 5 _).set_ 2 rfl 6 _).set_ 2 rfl 7 _).set_ 2 rfl 8 _).take 2).fin fun S' h => ⟨_, c, h⟩
  · rw [hdn] at q7
    have HDN := Lib.hid hdn
    clear hdn
    go_wp2_with fail
    go_quiet (fail)
    have s3 := S2.out.drewN nq
    generalize w2.drewN nq = w3 at *
    clear k0 k1 k2 k3 q0 q1 q2 q3 q4 q5 q6 q7 q8
    obtain ⟨k0, k1, k2, k3⟩ := rr4 (s3.blk 0 rfl)
    have f3 := (s3.blk 0 rfl).frozen 3
    have s4 : St w S (w3.setCell ⟨p, 3, none⟩ (.int .i64 ((s.reaped : Int) + 1))) [BlkR p 31 #[.int .i64 n, .slice (some ⟨b, off, none⟩) s.put c, .int .i64 s.taken, .int .i64 ((s.reaped : Int) + 1)], _, BlkR w.heap.size 36 dZ.cells] := s3.set_ 0 rfl 3 (.int .i64 ((s.reaped : Int) + 1))
    have S4 := Lib.hid s4
    clear s3 s4
    go_wp2_with fail
    clear k0 k1 k2 k3 f3
    have s4 := S4.out
    have s5 := S4.out
    generalize w3.setCell ⟨p, 3, none⟩ (.int .i64 ((s.reaped : Int) + 1)) = w4 at *
    obtain ⟨k0, k1, k2, k3⟩ := (s4.blk 0 rfl).four
    obtain ⟨X, hX⟩ : ∃ X : Int, (s.reaped : Int) + 1 = X := ⟨_, rfl⟩
    rw [hX] at k3
    have w6 : wrap64 (X - 1) = (s.reaped : Int) := by rw [IntWalk.wrap64_in _ ⟨by omega, by omega⟩]; omega
    have w7 : IntKind.i64.wrap (X - 1) = (s.reaped : Int) := by rw [IntWalk.i64_in _ ⟨by omega, by omega⟩]; omega
    obtain ⟨b', off', hbo, ⟨q0, q1, q2, q3, q4, q5, q6, q7, q8⟩, -⟩ := rr9 (s4.lis 1 rfl) hlt
    obtain ⟨rfl, rfl⟩ : b = b' ∧ off = off' := by simpa using hbo
    obtain ⟨c0, c1, c2, c3, c4, c5, c6, c7, c8⟩ := dsc9 dZ _ w.heap.size (s4.blk 2 rfl)
    obtain ⟨z0, z1, z2, z3, z4, z5, z6, z7, z8⟩ := frz9 (s4.blk 2 rfl)
    obtain ⟨d, hd⟩ : ∃ d, s.D s.reaped = d := ⟨_, rfl⟩
    rw [hd] at q0 q1 q2 q3 q4 q5 q6 q7 q8
    have HD := Lib.hid hd
    have S5 := Lib.hid s5
    clear s4 s5 S4 hd hX
    go_region
    all_goals
      go_wp2_with fail
      refine bodyPost_ret (v := .tuple #[d.v, .int .i64 0]) ?_ rfl ⟨by rw [HD.out], ?_⟩
      · simp [results, go_sem, Dsc.v, c0, c1, c2, c3, c4, c5, c6, c7, c8]
      · exact ((((((((((S5.out.set_ 2 rfl 0 _).set_ 2 rfl 1 _).set_ 2 rfl 2 _).set_ 2 rfl 3 _).set_ 2 rfl 4 _).set_ 2 rfl 5 _).set_ 2 rfl 6 _).set_ 2 rfl 7 _).set_ 2 rfl 8 _).drew.take 2).fin fun S' h => ⟨_, c, h⟩
end
end Go.Proofs.Ytboepnfekfhppaa
