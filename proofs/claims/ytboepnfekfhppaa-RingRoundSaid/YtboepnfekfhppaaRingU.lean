/- Layer 10: the document's own ring: At, Reset; the same descriptors. -/
import Derived.Test.YtboepnfekfhppaaRingR
import Derived.BigRegion
import Derived.Deep.DeepCutAuto
namespace Go.Proofs.Ytboepnfekfhppaa
open Go.RowKit
set_option linter.unusedVariables false
set_option maxRecDepth 100000
set_option maxHeartbeats 1000000
theorem dsl_drop (D : Nat → Dsc) {m r : Nat} (h : r ≤ m) : (dsl D m).drop (r * 9) = dsl (fun j => D (r + j)) (m - r) := by
  apply List.ext_getElem?
  intro q
  rw [List.getElem?_drop]
  by_cases hq : q < (m - r) * 9
  · have e : q / 9 * 9 + q % 9 = q := by omega
    have h1 := dsl_at D (m := m) (j := r + q / 9) (k := q % 9) (by omega) (by omega)
    have h2 := dsl_at (fun j => D (r + j)) (m := m - r) (j := q / 9) (k := q % 9) (by omega) (by omega)
    rw [e] at h2
    rw [h2, show r * 9 + q = (r + q / 9) * 9 + q % 9 by omega, h1]
  · rw [List.getElem?_eq_none (by rw [dsl_len]; omega), List.getElem?_eq_none (by rw [dsl_len]; omega)]
section
variable {w0 w : World} {S0 S : Nat → Prop} {L : List Res} {p n : Nat} {s s' : RSt}
theorem RAt_c (h : RRR p n s w S) (hs : s.ok n) (i : Int) (d : Dsc) (f : Int) (hP : AtP n s i d f) :
    Calls Try.prog 23 #[.pointer (some ⟨p, 0, none⟩), .int .i64 i] w fun e w' => e = .returned (.tuple #[d.v, .int .i64 f]) ∧ Below w.heap.size w w' := by
  obtain ⟨A, c, hr⟩ := h
  have sN : St w None (w.alloc (.cells #[.int .i64 0, .int .i64 0, .int .i64 0, .int .u64 0, .int .i64 0, .int .i64 0, .bool false, .bool false, .int .i64 0] 36)) [BlkR w.heap.size 36 dZ.cells] := (St.begin w).box 36 dZ.cells
  have sb : St w S (w.alloc (.cells #[.int .i64 0, .int .i64 0, .int .i64 0, .int .u64 0, .int .i64 0, .int .i64 0, .bool false, .bool false, .int .i64 0] 36)) [BlkR p 31 #[.int .i64 n, .slice A s.put c, .int .i64 s.taken, .int .i64 s.reaped], LisR 36 9 (.slice A s.put c) s.put (dsl s.D s.put)] := (St.start hr).alloc _
  have n0 := hs.n0
  have n1 := hs.n1
  have hm := hs.m
  have hrp : s.reaped ≤ s.put := Nat.le_trans hs.r hs.t
  obtain ⟨w1, hw1⟩ : ∃ x, w.alloc (.cells #[.int .i64 0, .int .i64 0, .int .i64 0, .int .u64 0, .int .i64 0, .int .i64 0, .bool false, .bool false, .int .i64 0] 36) = x := ⟨_, rfl⟩
  rw [hw1] at sb sN
  have HW1 := Lib.hid hw1
  obtain ⟨k0, k1, k2, k3⟩ := rr4 (sb.blk 0 rfl)
  obtain ⟨c0, c1, c2, c3, c4, c5, c6, c7, c8⟩ := dsc9 dZ _ w.heap.size (sN.blk 0 rfl)
  obtain ⟨z0, z1, z2, z3, z4, z5, z6, z7, z8⟩ := frz9 (sN.blk 0 rfl)
  have SB := Lib.hid sb
  have SN := Lib.hid sN
  have HP := Lib.hid hP
  have HS := Lib.hid hs
  clear hr hs sb sN hw1 hP
  go_enter Try.func23, Try.ntmps23
  go_upto_region 1 with (fail)
  rw [HW1.out]
  go_wp2_with fail
  go_loopw [6] (fun x wr => ∃ k : Nat, s.reaped ≤ k ∧ k ≤ s.put ∧ x = .int .i64 (k : Int) ∧ (∀ no : Nat, s.reaped ≤ no → no < k → ((no % n : Nat) : Int) ≠ i) ∧ wr = w1) (fun x _ => s.put - (intOf x).toNat)
  case atStart => exact ⟨s.reaped, Nat.le_refl _, hrp, rfl, fun no h1 h2 => by omega, rfl⟩
  case round =>
    obtain ⟨k, h0, hk, rfl, hall, rfl⟩ := hrel
    have HA := Lib.hid hall
    clear hall
    by_cases hlt : k < s.put
    · have hr : Int.tmod (k : Int) (n : Int) = ((k % n : Nat) : Int) := by
        rw [Int.tmod_eq_emod_of_nonneg (by omega)]; exact (Int.natCast_emod k n).symm
      have hl := Nat.mod_lt k (show 0 < n by omega)
      obtain ⟨j, hj⟩ : ∃ j, k % n = j := ⟨_, rfl⟩
      rw [hj] at hr hl
      have HJ := Lib.hid hj
      clear hj
      have hz : ((n : Int) == 0) = false := beq_eq_false_iff_ne.2 (by omega)
      by_cases he : (j : Int) = i
      · subst he
        have hfnd : d = s.D k ∧ f = 0 := by
          rcases HP.out with ⟨no, g1, g2, g3, g4, g5⟩ | ⟨g1, _⟩
          · have a1 := noAt_of (n := n) (r := s.reaped) (no := no) g1 (by have := HS.out.p; omega)
            have a2 := noAt_of (n := n) (r := s.reaped) (no := k) h0 (by have := HS.out.p; omega)
            rw [show no % n = j by omega] at a1
            rw [HJ.out, a1] at a2
            subst a2
            exact ⟨g4, g5⟩
          · exact absurd (by rw [HJ.out]) (g1 k h0 hlt)
        obtain ⟨hd, rfl⟩ := hfnd
        obtain ⟨b, off, rfl, ⟨q0, q1, q2, q3, q4, q5, q6, q7, q8⟩, -⟩ := rr9 (SB.out.lis 1 rfl) hlt
        rw [← hd] at q0 q1 q2 q3 q4 q5 q6 q7 q8
        clear hd
        go_wp2_with fail
        refine bodyPost_ret (v := .tuple #[d.v, .int .i64 0]) ?_ rfl ⟨rfl, ?_⟩
        · simp [results, go_sem, Dsc.v, c0, c1, c2, c3, c4, c5, c6, c7, c8]
        · exact (((((((((SN.out.set_ 0 rfl 0 _).set_ 0 rfl 1 _).set_ 0 rfl 2 _).set_ 0 rfl 3 _).set_ 0 rfl 4 _).set_ 0 rfl 5 _).set_ 0 rfl 6 _).set_ 0 rfl 7 _).set_ 0 rfl 8 _).below
      · have z1 : ((j : Int) == i) = false := beq_eq_false_iff_ne.2 he
        go_wp2_with fail
        go_roundw
        case rel =>
          refine ⟨k + 1, by omega, by omega, by go_num, fun no g1 g2 => ?_, by first | rfl | trivial⟩
          by_cases e : no = k
          · subst e; rw [HJ.out]; exact he
          · exact HA.out no g1 (by omega)
        case measure => simp [intOf]; omega
    · obtain rfl : k = s.put := by omega
      have t1 : decide ((s.put : Int) < (s.put : Int)) = false := decide_eq_false (by omega)
      obtain ⟨rfl, rfl⟩ : d = dZ ∧ f = 6 := by
        rcases HP.out with ⟨no, g1, g2, g3, g4, g5⟩ | ⟨_, h⟩
        · exact absurd g3 (HA.out no g1 g2)
        · exact h
      go_wp2_with fail
      refine bodyPost_ret (v := .tuple #[dZ.v, .int .i64 6]) ?_ rfl ⟨rfl, ?_⟩
      · simp [results, go_sem, Dsc.v, dZ, c0, c1, c2, c3, c4, c5, c6, c7, c8]
      · exact (((((((((SN.out.set_ 0 rfl 0 _).set_ 0 rfl 1 _).set_ 0 rfl 2 _).set_ 0 rfl 3 _).set_ 0 rfl 4 _).set_ 0 rfl 5 _).set_ 0 rfl 6 _).set_ 0 rfl 7 _).set_ 0 rfl 8 _).below
theorem RReset_c (h : RRR p n s w S) (hs : s.ok n) (m : Nat) (hm : m = s.put - s.reaped) :
    Calls Try.prog 20 #[.pointer (some ⟨p, 0, none⟩)] w fun e w' => ∃ x : Option Addr × Nat, e = .returned (.slice x.1 m x.2) ∧ ∃ S', Star (RRR p n RSt.new :: [LisR 36 9 (.slice x.1 m x.2) m (dsl (fun j => s.D (s.reaped + j)) m)]) w' S' ∧ Did S S' w w' := by
  have HM := Lib.hid hm
  clear hm
  obtain ⟨A, c, hr⟩ := h
  have hrp : s.reaped ≤ s.put := Nat.le_trans hs.r hs.t
  have sb := St.start hr
  have hc : s.put ≤ c ∧ c ≤ maxLen := by
    obtain ⟨A', c', hv, h1, h2⟩ := (sb.lis 1 rfl).shape
    injection hv with _ _ hv
    subst hv; exact ⟨h1, h2⟩
  obtain ⟨k0, k1, k2, k3⟩ := rr4 (sb.blk 0 rfl)
  have SB := Lib.hid sb
  have hm := hs.m
  clear hs hr sb
  have t1 : decide ((0 : Int) ≤ (s.reaped : Int)) = true := decide_eq_true (by omega)
  have t2 : decide (s.reaped ≤ s.put) = true := decide_eq_true hrp
  unfold maxLen at hc
  go_enter Try.func20, Try.ntmps20
  go_wp2_with fail
  go_quiet (fail)
  have s2 := SB.out.drewN nq
  have s3 := s2.lis_as 1 rfl ((s2.lis 1 rfl).cut hrp) (fun g hg => cut_block g hg)
  rw [dsl_drop _ hrp] at s3
  generalize w.drewN nq = w2 at *
  clear k0 k1 k2 k3 s2
  obtain ⟨B, hB⟩ : ∃ B, (if c = s.reaped then A else Option.map (fun x => x.add (s.reaped * 9)) A) = B := ⟨_, rfl⟩
  rw [hB] at s3 ⊢
  clear hB
  rw [← HM.out] at s3 ⊢
  have s3' : St w S w2 [BlkR p 31 #[.int .i64 n, .slice A s.put c, .int .i64 s.taken, .int .i64 s.reaped], LisR 36 9 (.slice B m (c - s.reaped)) m (dsl (fun j => s.D (s.reaped + j)) m)] := s3
  obtain ⟨k0, k1, k2, k3⟩ := rr4 (s3'.blk 0 rfl)
  have f1 := (s3'.blk 0 rfl).frozen 1
  have f2 := (s3'.blk 0 rfl).frozen 2
  have f3 := (s3'.blk 0 rfl).frozen 3
  have s4 := ((s3'.set_ 0 rfl 1 (.slice none 0 0)).set_ 0 rfl 2 (.int .i64 0)).set_ 0 rfl 3 (.int .i64 0)
  have S4 := Lib.hid s4
  clear s3 s3' s4
  go_wp2_with fail
  go_ret
  refine ⟨(B, c - s.reaped), rfl, ?_⟩
  have s5 := (S4.out.lis_nil 36 9).swap12
  have s6 := St.comm (A := [BlkR p 31 _, LisR 36 9 (.slice none 0 0) 0 []]) (B := [LisR 36 9 (.slice B m (c - s.reaped)) m (dsl (fun j => s.D (s.reaped + j)) m)]) s5
  have s7 := (s6.fold (A := [LisR 36 9 (.slice B m (c - s.reaped)) m (dsl (fun j => s.D (s.reaped + j)) m)]) (R := RRR p n RSt.new) (RRR.ok _ _ _) fun S h => ⟨none, 0, h⟩).swap01
  exact s7.fin fun S' h => h
end
end Go.Proofs.Ytboepnfekfhppaa
