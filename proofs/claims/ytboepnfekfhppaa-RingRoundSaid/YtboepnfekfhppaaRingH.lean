/- Layer 10: the program's ring: At, Reset. -/
import Derived.Test.YtboepnfekfhppaaRingE
import Derived.Test.YtboepnfekfhppaaMore
import Derived.Deep.DeepCutAuto
namespace Go.Proofs.Ytboepnfekfhppaa
open Go.RowKit
set_option linter.unusedVariables false
set_option maxRecDepth 100000
set_option maxHeartbeats 1000000
section
variable {w0 w : World} {S0 S : Nat → Prop} {L : List Res} {p g n : Nat} {s s' : RSt}
theorem At_c (h : RingR p n s w S) (hs : s.ok n) (i : Int) (d : Dsc) (f : Int) (hP : AtP n s i d f) :
    Calls Try.prog 22 #[.pointer (some ⟨p, 0, none⟩), .int .i64 i] w fun e w' => e = .returned (.tuple #[d.v, .int .i64 f]) ∧ Below w.heap.size w w' := by
  obtain ⟨g, hr⟩ := h
  have sN : St w None (w.alloc (.cells #[.int .i64 0, .int .i64 0, .int .i64 0, .int .u64 0, .int .i64 0, .int .i64 0, .bool false, .bool false, .int .i64 0] 36)) [BlkR w.heap.size 36 dZ.cells] := (St.begin w).box 36 dZ.cells
  have SN := Lib.hid sN
  have n0 := hs.n0
  have n1 := hs.n1
  have sb : St w S (w.alloc (.cells #[.int .i64 0, .int .i64 0, .int .i64 0, .int .u64 0, .int .i64 0, .int .i64 0, .bool false, .bool false, .int .i64 0] 36)) [BlkR p 62 #[.slice (some ⟨g, 0, none⟩) n n, .int .i64 s.put, .int .i64 s.taken, .int .i64 s.reaped], LisR 20 1 (.slice (some ⟨g, 0, none⟩) n n) n (plcs n s)] := (St.start hr).alloc _
  obtain ⟨k0, k1, k2, k3⟩ := ring4 (sb.blk 0 rfl)
  have hcase : (i < 0 ∧ d = dZ ∧ f = 6) ∨ ((n : Int) ≤ i ∧ d = dZ ∧ f = 6) ∨ ∃ j : Nat, (j : Int) = i ∧ j < n ∧ ((plc n s j = .iface 36 d.v ∧ f = 0) ∨ (plc n s j = .nilIface ∧ d = dZ ∧ f = 6)) := by
    rcases hP with ⟨no, g1, g2, g3, g4, g5⟩ | ⟨g1, g2, g3⟩
    · have hk := Nat.mod_lt no (show 0 < n by omega)
      exact Or.inr (Or.inr ⟨no % n, g3, hk, Or.inl ⟨by rw [plc_at hs g1 g2, g4], g5⟩⟩)
    · by_cases h0 : i < 0
      · exact Or.inl ⟨h0, g2, g3⟩
      · by_cases h1 : (n : Int) ≤ i
        · exact Or.inr (Or.inl ⟨h1, g2, g3⟩)
        · exact Or.inr (Or.inr ⟨i.toNat, by omega, by omega, Or.inr ⟨plc_no (by omega) (fun no a1 a2 a3 => g1 no a1 a2 (by omega)), g2, g3⟩⟩)
  have CE := Lib.hid (fun j (hj : j < n) => lis_cell0 (sb.lis 1 rfl) (plcs_get s hj))
  clear hr hs hP sb
  rcases hcase with ⟨q, rfl, rfl⟩ | ⟨q, rfl, rfl⟩ | ⟨j, rfl, hj, hv⟩
  · have d1 : decide (i < 0) = true := decide_eq_true q
    obtain ⟨c0, c1, c2, c3, c4, c5, c6, c7, c8⟩ := dsc9 dZ _ w.heap.size (sN.blk 0 rfl)
    clear sN
    go_enter Try.func22, Try.ntmps22
    go_wp2_with fail
    refine bodyPost_ret (v := .tuple #[dZ.v, .int .i64 6]) ?_ rfl ⟨rfl, ?_⟩
    · simp [results, go_sem, Dsc.v, dZ, c0, c1, c2, c3, c4, c5, c6, c7, c8]
    · exact SN.out.below
  · have d1 : decide (i < 0) = false := decide_eq_false (by omega)
    have d2 : decide ((n : Int) ≤ i) = true := decide_eq_true q
    clear sN
    go_enter Try.func22, Try.ntmps22
    go_wp2_with fail
    refine bodyPost_ret (v := .tuple #[dZ.v, .int .i64 6]) ?_ rfl ⟨rfl, ?_⟩
    · simp [results, go_sem, Dsc.v, dZ]
    · exact SN.out.below
  have d1 : decide ((j : Int) < 0) = false := decide_eq_false (by omega)
  have d2 : decide ((n : Int) ≤ (j : Int)) = false := decide_eq_false (by omega)
  have d2' : decide (n ≤ j) = false := decide_eq_false (by omega)
  have ce := CE.out j hj
  rcases hv with ⟨hv, rfl⟩ | ⟨hv, rfl, rfl⟩
  · rw [hv] at ce
    have s2 : St w None ((w.alloc (.cells #[.int .i64 0, .int .i64 0, .int .i64 0, .int .u64 0, .int .i64 0, .int .i64 0, .bool false, .bool false, .int .i64 0] 36)).alloc (.cells #[.int .i64 d.op, .int .i64 d.req, .int .i64 d.slot, .int .u64 d.gen, .int .i64 d.frm, .int .i64 d.len, .bool d.dv, .bool d.dn, .int .i64 d.st] 36)) [BlkR w.heap.size 36 dZ.cells, BlkR (w.alloc (.cells #[.int .i64 0, .int .i64 0, .int .i64 0, .int .u64 0, .int .i64 0, .int .i64 0, .bool false, .bool false, .int .i64 0] 36)).heap.size 36 d.cells] := sN.box 36 d.cells
    unfold Dsc.v at ce
    obtain ⟨r0, r1, r2, r3, r4, r5, r6, r7, r8⟩ := dsc9 d _ _ (s2.blk 1 rfl)
    obtain ⟨e0, e1, e2, e3, e4, e5, e6, e7, e8⟩ := dsc9 dZ _ _ (s2.blk 0 rfl)
    obtain ⟨z0, z1, z2, z3, z4, z5, z6, z7, z8⟩ := frz9 (s2.blk 0 rfl)
    obtain ⟨w1, hw1⟩ : ∃ x, w.alloc (.cells #[.int .i64 0, .int .i64 0, .int .i64 0, .int .u64 0, .int .i64 0, .int .i64 0, .bool false, .bool false, .int .i64 0] 36) = x := ⟨_, rfl⟩
    rw [hw1] at ce k0 r0 r1 r2 r3 r4 r5 r6 r7 r8 e0 e1 e2 e3 e4 e5 e6 e7 e8 z0 z1 z2 z3 z4 z5 z6 z7 z8 s2
    have S2 := Lib.hid s2
    have HW1 := Lib.hid hw1
    clear sN hv s2 hw1 k1 k2 k3 SN
    go_enter Try.func22, Try.ntmps22
    go_upto_region 1 with (fail)
    rw [HW1.out]
    go_upto_region 4 with (fail)
    generalize w1.alloc (.cells #[.int .i64 d.op, .int .i64 d.req, .int .i64 d.slot, .int .u64 d.gen, .int .i64 d.frm, .int .i64 d.len, .bool d.dv, .bool d.dn, .int .i64 d.st] 36) = w2 at *
    go_wp2_with fail
    refine bodyPost_ret (v := .tuple #[d.v, .int .i64 0]) ?_ rfl ⟨rfl, ?_⟩
    · simp [results, go_sem, Dsc.v, e0, e1, e2, e3, e4, e5, e6, e7, e8]
    · exact (((((((((S2.out.set_ 0 rfl 0 _).set_ 0 rfl 1 _).set_ 0 rfl 2 _).set_ 0 rfl 3 _).set_ 0 rfl 4 _).set_ 0 rfl 5 _).set_ 0 rfl 6 _).set_ 0 rfl 7 _).set_ 0 rfl 8 _).below
  · rw [hv] at ce
    have s2 : St w None ((w.alloc (.cells #[.int .i64 0, .int .i64 0, .int .i64 0, .int .u64 0, .int .i64 0, .int .i64 0, .bool false, .bool false, .int .i64 0] 36)).alloc (.cells #[.int .i64 0, .int .i64 0, .int .i64 0, .int .u64 0, .int .i64 0, .int .i64 0, .bool false, .bool false, .int .i64 0] 36)) [BlkR w.heap.size 36 dZ.cells] := sN.alloc _
    obtain ⟨e0, e1, e2, e3, e4, e5, e6, e7, e8⟩ := dsc9 dZ _ _ (s2.blk 0 rfl)
    obtain ⟨z0, z1, z2, z3, z4, z5, z6, z7, z8⟩ := frz9 (s2.blk 0 rfl)
    obtain ⟨w1, hw1⟩ : ∃ x, w.alloc (.cells #[.int .i64 0, .int .i64 0, .int .i64 0, .int .u64 0, .int .i64 0, .int .i64 0, .bool false, .bool false, .int .i64 0] 36) = x := ⟨_, rfl⟩
    rw [hw1] at ce k0 e0 e1 e2 e3 e4 e5 e6 e7 e8 z0 z1 z2 z3 z4 z5 z6 z7 z8 s2
    have S2 := Lib.hid s2
    have HW1 := Lib.hid hw1
    clear sN hv s2 hw1 k1 k2 k3 SN
    go_enter Try.func22, Try.ntmps22
    go_upto_region 1 with (fail)
    rw [HW1.out]
    go_upto_region 4 with (fail)
    generalize w1.alloc (.cells #[.int .i64 0, .int .i64 0, .int .i64 0, .int .u64 0, .int .i64 0, .int .i64 0, .bool false, .bool false, .int .i64 0] 36) = w2 at *
    go_wp2_with fail
    refine bodyPost_ret (v := .tuple #[dZ.v, .int .i64 6]) ?_ rfl ⟨rfl, ?_⟩
    · simp [results, go_sem, Dsc.v, dZ, e0, e1, e2, e3, e4, e5, e6, e7, e8]
    · exact (((((((((S2.out.set_ 0 rfl 0 _).set_ 0 rfl 1 _).set_ 0 rfl 2 _).set_ 0 rfl 3 _).set_ 0 rfl 4 _).set_ 0 rfl 5 _).set_ 0 rfl 6 _).set_ 0 rfl 7 _).set_ 0 rfl 8 _).below
end
end Go.Proofs.Ytboepnfekfhppaa
