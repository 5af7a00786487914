/- Layer 10: the program's ring: Reap. -/
import Derived.Test.YtboepnfekfhppaaRingE
import Derived.Deep.DeepCutAuto
namespace Go.Proofs.Ytboepnfekfhppaa
open Go.RowKit
set_option linter.unusedVariables false
set_option maxRecDepth 100000
set_option maxHeartbeats 1000000
section
variable {w0 w : World} {S0 S : Nat → Prop} {L : List Res} {p g n : Nat} {s s' : RSt}
theorem Reap_c (h : RingR p n s w S) (hs : s.ok n) (d : Dsc) (f : Int) (hP : ReapP s d f s') :
    Calls Try.prog 16 #[.pointer (some ⟨p, 0, none⟩)] w fun e w' => e = .returned (.tuple #[d.v, .int .i64 f]) ∧ ∃ S', RingR p n s' w' S' ∧ Did S S' w w' := by
  have SU := Lib.hid (fun (w : World) S (h : RingR p n s w S) h1 => sure_c h hs s.reaped (Nat.le_refl _) h1)
  obtain ⟨g, hr⟩ := h
  have sb : St w S (w.alloc (.cells #[.int .i64 0, .int .i64 0, .int .i64 0, .int .u64 0, .int .i64 0, .int .i64 0, .bool false, .bool false, .int .i64 0] 36)) [BlkR p 62 #[.slice (some ⟨g, 0, none⟩) n n, .int .i64 s.put, .int .i64 s.taken, .int .i64 s.reaped], LisR 20 1 (.slice (some ⟨g, 0, none⟩) n n) n (plcs n s), BlkR w.heap.size 36 dZ.cells] := (St.start hr).box 36 dZ.cells
  have HS := Lib.hid hs
  have hm := hs.m
  have hrp : s.reaped ≤ s.put := Nat.le_trans hs.r hs.t
  have n0 := hs.n0
  have n1 := hs.n1
  obtain ⟨w1, hw1⟩ : ∃ x, w.alloc (.cells #[.int .i64 0, .int .i64 0, .int .i64 0, .int .u64 0, .int .i64 0, .int .i64 0, .bool false, .bool false, .int .i64 0] 36) = x := ⟨_, rfl⟩
  rw [hw1] at sb
  have HW1 := Lib.hid hw1
  obtain ⟨k0, k1, k2, k3⟩ := ring4 (sb.blk 0 rfl)
  obtain ⟨P, hP1⟩ : ∃ P : Int, (s.put : Int) = P := ⟨_, rfl⟩
  obtain ⟨R, hR⟩ : ∃ P : Int, (s.reaped : Int) = P := ⟨_, rfl⟩
  rw [hP1] at k1
  rw [hR] at k3
  have SB := Lib.hid sb
  clear hr hs sb hw1
  go_enter Try.func16, Try.ntmps16
  go_wp2_with fail
  rw [HW1.out]
  by_cases hx : s.reaped = s.put
  · obtain ⟨rfl, rfl, rfl⟩ : d = dZ ∧ f = 5 ∧ s' = s := by
      rcases hP with ⟨_, h⟩ | ⟨h, _⟩ | ⟨h, _⟩
      · exact h
      · omega
      · omega
    have z1 : (R == P) = true := beq_iff_eq.2 (by omega)
    clear hP hP1 hR hx
    go_quiet (fail)
    have s2 := SB.out.drewN nq
    generalize w1.drewN nq = w2 at *
    obtain ⟨c0, c1, c2, c3, c4, c5, c6, c7, c8⟩ := dsc9 dZ _ w.heap.size (s2.blk 2 rfl)
    obtain ⟨z0, z1, z2, z3, z4, z5, z6, z7, z8⟩ := frz9 (s2.blk 2 rfl)
    have S2 := Lib.hid s2
    clear s2
    go_wp2_with fail
    refine bodyPost_ret (v := .tuple #[dZ.v, .int .i64 5]) ?_ rfl ⟨rfl, ?_⟩
    · simp [results, go_sem, Dsc.v, dZ, c0, c1, c2, c3, c4, c5, c6, c7, c8]
    · exact ((((((((((S2.out.set_ 2 rfl 0 _).set_ 2 rfl 1 _).set_ 2 rfl 2 _).set_ 2 rfl 3 _).set_ 2 rfl 4 _).set_ 2 rfl 5 _).set_ 2 rfl 6 _).set_ 2 rfl 7 _).set_ 2 rfl 8 _).take 2).fin fun S' h => ⟨g, h⟩
  have hlt : s.reaped < s.put := by omega
  have z1 : (R == P) = false := beq_eq_false_iff_ne.2 (by omega)
  have b0 : 0 ≤ R ∧ R ≤ 1000000 := by omega
  have hcase : ((s.D s.reaped).dn = false ∧ d = dZ ∧ f = 10 ∧ s' = s) ∨ ((s.D s.reaped).dn = true ∧ d = s.D s.reaped ∧ f = 0 ∧ s' = ⟨s.put, s.taken, s.reaped + 1, s.D⟩) := by
    rcases hP with ⟨h, _⟩ | ⟨_, h⟩ | ⟨_, h⟩
    · omega
    · exact Or.inl h
    · exact Or.inr h
  clear hP
  go_quiet (fail)
  have s2 := SB.out.drewN nq
  generalize w1.drewN nq = w2 at *
  have s2' : St w S w2 [RingR p n s, BlkR w.heap.size 36 dZ.cells] := by
    have h1 := St.comm (A := [BlkR p 62 #[.slice (some ⟨g, 0, none⟩) n n, .int .i64 s.put, .int .i64 s.taken, .int .i64 s.reaped], LisR 20 1 (.slice (some ⟨g, 0, none⟩) n n) n (plcs n s)]) (B := [BlkR w.heap.size 36 dZ.cells]) s2
    exact (h1.fold (A := [BlkR w.heap.size 36 dZ.cells]) (R := RingR p n s) (RingR.ok _ _ _) fun S h => ⟨g, h⟩).swap01
  obtain ⟨Q, hQ⟩ := s2'.get 0 rfl
  have SC := Lib.hid (SU.out _ _ hQ hlt)
  have S2 := Lib.hid s2
  clear k0 k1 k2 k3
  obtain ⟨k0, k1, k2, k3⟩ := ring4 (s2.blk 0 rfl)
  rw [hR] at k3 SC
  obtain ⟨o, ho⟩ : ∃ o, s.D s.reaped = o := ⟨_, rfl⟩
  rw [ho] at SC hcase
  unfold Dsc.v at SC
  clear s2 s2' hQ SU hP1
  go_wp2_with fail
  refine SC.out.mono ?_
  rintro e w3 ⟨rfl, hb3⟩
  have s3 : St w S w3 [BlkR p 62 #[.slice (some ⟨g, 0, none⟩) n n, .int .i64 s.put, .int .i64 s.taken, .int .i64 s.reaped], LisR 20 1 (.slice (some ⟨g, 0, none⟩) n n) n (plcs n s), BlkR w.heap.size 36 dZ.cells] := S2.out.stay hb3
  have s4 : St w S (w3.alloc (.cells #[.int .i64 o.op, .int .i64 o.req, .int .i64 o.slot, .int .u64 o.gen, .int .i64 o.frm, .int .i64 o.len, .bool o.dv, .bool o.dn, .int .i64 o.st] 36)) [BlkR p 62 #[.slice (some ⟨g, 0, none⟩) n n, .int .i64 s.put, .int .i64 s.taken, .int .i64 s.reaped], LisR 20 1 (.slice (some ⟨g, 0, none⟩) n n) n (plcs n s), BlkR w.heap.size 36 dZ.cells, BlkR w3.heap.size 36 o.cells] := s3.box 36 o.cells
  obtain ⟨w4, hw4⟩ : ∃ x, w3.alloc (.cells #[.int .i64 o.op, .int .i64 o.req, .int .i64 o.slot, .int .u64 o.gen, .int .i64 o.frm, .int .i64 o.len, .bool o.dv, .bool o.dn, .int .i64 o.st] 36) = x := ⟨_, rfl⟩
  rw [hw4] at s4
  have HW4 := Lib.hid hw4
  clear hb3 S2 SC k0 k1 k2 k3 s3 hw4
  rcases hcase with ⟨hdn, rfl, rfl, rfl⟩ | ⟨hdn, rfl, rfl, rfl⟩
  · obtain ⟨c0, c1, c2, c3, c4, c5, c6, c7, c8⟩ := dsc9 dZ _ w.heap.size (s4.blk 2 rfl)
    obtain ⟨z0, z1, z2, z3, z4, z5, z6, z7, z8⟩ := frz9 (s4.blk 2 rfl)
    obtain ⟨_, _, _, _, _, _, _, e7, _⟩ := dsc9 o _ w3.heap.size (s4.blk 3 rfl)
    rw [hdn] at e7
    have S4 := Lib.hid s4
    clear s4 hdn
    go_upto_region 4 with (fail)
    rw [HW4.out]
    go_wp2_with fail
    refine bodyPost_ret (v := .tuple #[dZ.v, .int .i64 10]) ?_ rfl ⟨rfl, ?_⟩
    · simp [results, go_sem, Dsc.v, dZ, c0, c1, c2, c3, c4, c5, c6, c7, c8]
    · exact ((((((((((S4.out.set_ 2 rfl 0 _).set_ 2 rfl 1 _).set_ 2 rfl 2 _).set_ 2 rfl 3 _).set_ 2 rfl 4 _).set_ 2 rfl 5 _).set_ 2 rfl 6 _).set_ 2 rfl 7 _).set_ 2 rfl 8 _).take 2).fin fun S' h => ⟨g, h⟩
  · obtain ⟨_, _, _, _, _, _, _, e7, _⟩ := dsc9 d _ w3.heap.size (s4.blk 3 rfl)
    rw [hdn] at e7
    have s5 := s4.drew
    obtain ⟨w5, hw5⟩ : ∃ x, w4.drew = x := ⟨_, rfl⟩
    rw [hw5] at s5
    have HW5 := Lib.hid (show ({ heap := w4.heap, tape := w4.tape, drawn := w4.drawn + 1, os := w4.os, output := w4.output } : World) = w5 from hw5)
    obtain ⟨k0, k1, k2, k3⟩ := ring4 (s5.blk 0 rfl)
    have hk := Nat.mod_lt s.reaped (show 0 < n by omega)
    have PL := Lib.hid (place_c k0 n0 n1 s.reaped (by omega))
    have c2 := lis_cell0 (s5.lis 1 rfl) (plcs_get s hk)
    have f2 := (s5.lis 1 rfl).frozen (s.reaped % n)
    have s6 := s5.lis_set 1 rfl (show s.reaped % n < n * 1 by omega) .nilIface
    rw [Nat.zero_add, reap_plcs HS.out hlt] at s6
    obtain ⟨j, hj⟩ : ∃ j, s.reaped % n = j := ⟨_, rfl⟩
    rw [hj] at PL c2 f2 s6 hk
    obtain ⟨v, hv⟩ : ∃ v, plc n s j = v := ⟨_, rfl⟩
    rw [hv] at c2
    have s6' : St w S _ [BlkR p 62 #[.slice (some ⟨g, 0, none⟩) n n, .int .i64 s.put, .int .i64 s.taken, .int .i64 s.reaped], _, _, _] := s6
    obtain ⟨m0, m1, m2, m3⟩ := ring4 (s6'.blk 0 rfl)
    have f3 := (s6'.blk 0 rfl).frozen 3
    rw [hR] at m3 k3 PL
    have s7 := s6'.set_ 0 rfl 3 (.int .i64 (R + 1))
    have e9 := dsc9 d _ w3.heap.size (s7.blk 3 rfl)
    have r9 := dsc9 dZ _ w.heap.size (s7.blk 2 rfl)
    have z9 := frz9 (s7.blk 2 rfl)
    have S7 : St w S ((w5.setCell ⟨g, j, none⟩ .nilIface).setCell ⟨p, 3, none⟩ (.int .i64 (R + 1))) (RingL p g n ⟨s.put, s.taken, s.reaped + 1, s.D⟩ ++ [BlkR w.heap.size 36 dZ.cells]) := by
      unfold RingL
      dsimp only
      rw [show ((s.reaped + 1 : Nat) : Int) = R + 1 by omega]
      exact s7.take 3
    have S8 := Lib.hid S7
    clear s4 s5 s6 s6' s7 S7 hj hv HS hw5 hdn
    go_upto_region 4 with (fail)
    rw [HW4.out]
    go_wp2_with fail
    refine wp_region_still_tail 11 (by kernel_rfl) (by kernel_rfl) ?_
    rw [HW5.out]
    simp only [List.take_succ_cons, List.take_zero, List.drop_succ_cons, List.drop_zero]
    repeat (first | still_step | still_call PL.out)
    refine wpStill_nil ?_
    go_upto_region 8 with (fail)
    obtain ⟨e0, e1, e2, e3, e4, e5, e6, e7', e8⟩ := e9
    obtain ⟨r0, r1, r2, r3, r4, r5, r6, r7, r8⟩ := r9
    obtain ⟨z0, z1, z2, z3, z4, z5, z6, z7, z8⟩ := z9
    clear k0 k1 k2 k3 m0 m1 m2 m3 c2 f2 f3 e7
    generalize (w5.setCell ⟨g, j, none⟩ .nilIface).setCell ⟨p, 3, none⟩ (.int .i64 (R + 1)) = w7 at *
    go_wp2_with fail
    refine bodyPost_ret (v := .tuple #[d.v, .int .i64 0]) ?_ rfl ⟨rfl, ?_⟩
    · simp [results, go_sem, Dsc.v, r0, r1, r2, r3, r4, r5, r6, r7, r8]
    · exact ((((((((((S8.out.set_ 2 rfl 0 _).set_ 2 rfl 1 _).set_ 2 rfl 2 _).set_ 2 rfl 3 _).set_ 2 rfl 4 _).set_ 2 rfl 5 _).set_ 2 rfl 6 _).set_ 2 rfl 7 _).set_ 2 rfl 8 _).take 2).fin fun S' h => ⟨g, h⟩
end
end Go.Proofs.Ytboepnfekfhppaa
