/- Layer 10: the program's ring: what lies there for sure; New, Put, Take. -/
import Derived.Test.YtboepnfekfhppaaRingC
namespace Go.Proofs.Ytboepnfekfhppaa
open Go.RowKit
set_option linter.unusedVariables false
set_option maxRecDepth 100000
set_option maxHeartbeats 1000000
section
variable {w0 w : World} {S0 S : Nat → Prop} {L : List Res} {p g n : Nat} {s s' : RSt}
theorem sure_c (h : RingR p n s w S) (hs : s.ok n) (no : Nat) (h0 : s.reaped ≤ no) (h1 : no < s.put) :
    Calls Try.prog 28 #[.pointer (some ⟨p, 0, none⟩), .int .i64 no] w fun e w' => e = .returned (s.D no).v ∧ Below w.heap.size w w' := by
  obtain ⟨g, hr⟩ := h
  have sb : St w S (w.alloc (.cells #[.int .i64 0, .int .i64 0, .int .i64 0, .int .u64 0, .int .i64 0, .int .i64 0, .bool false, .bool false, .int .i64 0] 36)) [_, _] := (St.start hr).alloc _
  have sN : St w None (w.alloc (.cells #[.int .i64 0, .int .i64 0, .int .i64 0, .int .u64 0, .int .i64 0, .int .i64 0, .bool false, .bool false, .int .i64 0] 36)) [BlkR w.heap.size 36 dZ.cells] := (St.begin w).box 36 dZ.cells
  obtain ⟨w1, hw1⟩ : ∃ x, w.alloc (.cells #[.int .i64 0, .int .i64 0, .int .i64 0, .int .u64 0, .int .i64 0, .int .i64 0, .bool false, .bool false, .int .i64 0] 36) = x := ⟨_, rfl⟩
  rw [hw1] at sb sN
  have HW1 := Lib.hid hw1
  replace sb := sb.drew
  replace sN := sN.drew
  obtain ⟨w2, hw2⟩ : ∃ x, w1.drew = x := ⟨_, rfl⟩
  rw [hw2] at sb sN
  have HW2 := Lib.hid (show ({ heap := w1.heap, tape := w1.tape, drawn := w1.drawn + 1, os := w1.os, output := w1.output } : World) = w2 from hw2)
  clear hw1 hw2
  have hm := hs.m
  have n0 := hs.n0
  have n1 := hs.n1
  have hk := Nat.mod_lt no (show 0 < n by omega)
  have c2 := lis_cell0 (sb.lis 1 rfl) (plcs_get s hk)
  rw [plc_at hs h0 h1] at c2
  obtain ⟨k0, k1, k2, k3⟩ := ring4 (sb.blk 0 rfl)
  have PL := Lib.hid (place_c k0 n0 n1 no (by omega))
  obtain ⟨j, hj⟩ : ∃ j, no % n = j := ⟨_, rfl⟩
  rw [hj] at PL c2 hk
  obtain ⟨d, hd⟩ : ∃ d, s.D no = d := ⟨_, rfl⟩
  rw [hd] at c2 ⊢
  obtain ⟨c0, c1, c3, c4, c5, c6, c7, c8, c9⟩ := dsc9 dZ _ w.heap.size (sN.blk 0 rfl)
  obtain ⟨z0, z1, z2, z3, z4, z5, z6, z7, z8⟩ := frz9 (sN.blk 0 rfl)
  have SN := Lib.hid sN
  unfold Dsc.v at c2
  clear hr sb sN hj hd hm h0 h1
  go_enter Try.func28, Try.ntmps28
  go_wp2_with fail
  rw [HW1.out]
  refine wp_region_still_tail 10 (by kernel_rfl) (by kernel_rfl) ?_
  rw [HW2.out]
  simp only [List.take_succ_cons, List.take_zero, List.drop_succ_cons, List.drop_zero]
  repeat (first | still_step | still_call PL.out)
  refine wpStill_nil ?_
  go_wp2_with fail
  refine bodyPost_ret (v := d.v) ?_ rfl ⟨rfl, ?_⟩
  · simp [results, go_sem, Dsc.v, c0, c1, c3, c4, c5, c6, c7, c8, c9]
  · exact (((((((((SN.out.set_ 0 rfl 0 _).set_ 0 rfl 1 _).set_ 0 rfl 2 _).set_ 0 rfl 3 _).set_ 0 rfl 4 _).set_ 0 rfl 5 _).set_ 0 rfl 6 _).set_ 0 rfl 7 _).set_ 0 rfl 8 _).below
theorem New_o (H : St w0 S0 w L) (h0 : 1 ≤ n) (h1 : n ≤ 64) :
    Calls Try.prog 9 #[.int .i64 n] w fun e w' => ∃ p, e = .returned (.tuple #[.pointer (some ⟨p, 0, none⟩), .int .i64 0]) ∧ St w0 S0 w' (L ++ [RingR p n RSt.new]) := by
  have d1 : decide ((n : Int) < 1) = false := decide_eq_false (by omega)
  have d2 : decide (64 < (n : Int)) = false := decide_eq_false (by omega)
  have d2' : decide (64 < n) = false := decide_eq_false (by omega)
  obtain ⟨iA, hiA, hzA, hsA, hbA⟩ := any_parts Try.infoAny
  have mk := fun W => run_make_rowN (P := Try.prog) 60 20 iA .nilIface Try.underlying60 hiA hzA rfl hsA .i64 .i64 n (by rw [hbA]; omega) (by omega) W
  have sm := (H.lis_new 20 1 n (madeCells #[.nilIface] n) (by simp [madeCells]) (by unfold maxLen; omega)).box 62 #[.slice (some ⟨w.heap.size, 0, none⟩) n n, .int .i64 0, .int .i64 0, .int .i64 0]
  rw [made_rep, ← plcs_new n RSt.new (Nat.le_refl _), List.append_assoc] at sm
  have s2 := sm.fold (R := RingR (w.heap.size + 1) n RSt.new) (RingR.ok _ _ _) fun S h => ⟨w.heap.size, by
    have h2 := Star.comm (A := [LisR _ _ _ _ _]) (B := [BlkR _ _ _]) h
    simpa [RingL, RSt.new] using h2⟩
  have SM := Lib.hid s2
  clear sm s2 H
  go_enter Try.func9, Try.ntmps9
  go_wp2_with fail
  go_ret2
  exact ⟨_, rfl, SM.out⟩
theorem New_no (z : Int) (hz : z < 1 ∨ 64 < z) (w : World) :
    Calls Try.prog 9 #[.int .i64 z] w fun e w' => e = .returned (.tuple #[.pointer none, .int .i64 1]) ∧ w = w' := by
  by_cases h1 : z < 1
  · have d1 : decide (z < 1) = true := decide_eq_true h1
    clear hz
    go_enter Try.func9, Try.ntmps9
    go_wp2_with fail
    go_ret2
    exact ⟨rfl, rfl⟩
  · have d1 : decide (z < 1) = false := decide_eq_false h1
    have d2 : decide (64 < z) = true := decide_eq_true (by omega)
    clear hz
    go_enter Try.func9, Try.ntmps9
    go_wp2_with fail
    go_ret2
    exact ⟨rfl, rfl⟩
theorem Put_c (h : RingR p n s w S) (hs : s.ok n) (d : Dsc) (hf : d.fits) (a f : Int) (hP : PutP n s d a f s') (hm : s.put + 1 ≤ 1000000) :
    Calls Try.prog 10 #[.pointer (some ⟨p, 0, none⟩), d.v] w fun e w' => e = .returned (.tuple #[.int .i64 a, .int .i64 f]) ∧ ∃ S', RingR p n s' w' S' ∧ Did S S' w w' := by
  obtain ⟨g, hr⟩ := h
  have HP := Lib.hid hP
  have HS := Lib.hid hs
  have MY := Lib.hid (fun w b hb => may_c d.inR w (inR_fits hf) b hb)
  have sb : St w S (w.alloc (.cells #[.int .i64 d.op, .int .i64 d.req, .int .i64 d.slot, .int .u64 d.gen, .int .i64 d.frm, .int .i64 d.len, .bool true, .bool false, .int .i64 0] 36)) [BlkR p 62 #[.slice (some ⟨g, 0, none⟩) n n, .int .i64 s.put, .int .i64 s.taken, .int .i64 s.reaped], LisR 20 1 (.slice (some ⟨g, 0, none⟩) n n) n (plcs n s), BlkR w.heap.size 36 d.inR.cells] := (St.start hr).box 36 d.inR.cells
  have SB := Lib.hid sb
  have n0 := hs.n0
  have n1 := hs.n1
  have hp := hs.p
  have hrp : s.reaped ≤ s.put := Nat.le_trans hs.r hs.t
  clear hP hs hf hr sb
  unfold Dsc.v
  go_enter Try.func10, Try.ntmps10
  go_wp2_with fail
  by_cases hy : d.inR.may
  case neg =>
    refine (MY.out _ false (decide_eq_false hy).symm).mono ?_
    rintro e w1 ⟨rfl, hb1⟩
    obtain ⟨rfl, rfl, rfl⟩ : a = 0 ∧ f = 1 ∧ s' = s := by
      rcases HP.out with ⟨_, h⟩ | ⟨h, _⟩ | ⟨h, _⟩
      · exact h
      · exact absurd h hy
      · exact absurd h hy
    have S2 := Lib.hid ((SB.out.stay hb1).take 2)
    clear hb1 hy
    go_wp2_with fail
    go_ret2
    exact ⟨rfl, S2.out.fin fun S' h => ⟨g, h⟩⟩
  refine (MY.out _ true (decide_eq_true hy).symm).mono ?_
  rintro e w1 ⟨rfl, hb1⟩
  have s2 := SB.out.stay hb1
  obtain ⟨k0, k1, k2, k3⟩ := ring4 (s2.blk 0 rfl)
  have S2 := Lib.hid s2
  have HY := Lib.hid hy
  clear hb1 hy s2 SB
  obtain ⟨P, hP⟩ : ∃ P : Int, (s.put : Int) = P := ⟨_, rfl⟩
  obtain ⟨R, hR⟩ : ∃ P : Int, (s.reaped : Int) = P := ⟨_, rfl⟩
  rw [hP] at k1
  rw [hR] at k3
  by_cases hfull : s.put = s.reaped + n
  case pos =>
    obtain ⟨rfl, rfl, rfl⟩ : a = 0 ∧ f = 4 ∧ s' = s := by
      rcases HP.out with ⟨h, _⟩ | ⟨_, _, h⟩ | ⟨_, h, _⟩
      · exact absurd HY.out h
      · exact h
      · omega
    have z1 : (P - R == (n : Int)) = true := beq_iff_eq.2 (by omega)
    have b0 : 0 ≤ P ∧ P ≤ 1000000 := by omega
    have b1 : 0 ≤ R ∧ R ≤ P := by omega
    have hw : IntKind.i64.wrap (P - R) = P - R := IntWalk.i64_in _ ⟨by omega, by omega⟩
    clear hP hR
    go_wp2_with fail
    go_quiet (fail)
    go_wp2_with fail
    go_ret2
    exact ⟨rfl, ((S2.out.drewN _).take 2).fin fun S' h => ⟨g, h⟩⟩
  have z1 : (P - R == (n : Int)) = false := beq_eq_false_iff_ne.2 (by omega)
  have b0 : 0 ≤ P ∧ P ≤ 1000000 := by omega
  have b1 : 0 ≤ R ∧ R ≤ P := by omega
  have hw : IntKind.i64.wrap (P - R) = P - R := IntWalk.i64_in _ ⟨by omega, by omega⟩
  obtain ⟨rfl, rfl, rfl⟩ : a = s.put ∧ f = 0 ∧ s' = ⟨s.put + 1, s.taken, s.reaped, setD s.D s.put d.inR⟩ := by
    rcases HP.out with ⟨h, _⟩ | ⟨_, h, _⟩ | ⟨_, _, h⟩
    · exact absurd HY.out h
    · exact absurd h hfull
    · exact h
  go_wp2_with fail
  go_quiet (fail)
  have s3 := S2.out.drewN nq
  generalize w1.drewN nq = w3 at *
  have s4 := s3.drew
  obtain ⟨w4, hw4⟩ : ∃ x, w3.drew = x := ⟨_, rfl⟩
  rw [hw4] at s4
  have HW4 := Lib.hid (show ({ heap := w3.heap, tape := w3.tape, drawn := w3.drawn + 1, os := w3.os, output := w3.output } : World) = w4 from hw4)
  have hk := Nat.mod_lt s.put (show 0 < n by omega)
  clear k0 k1 k2 k3
  obtain ⟨j0, j1, j2, j3⟩ := ring4 (s3.blk 0 rfl)
  obtain ⟨k0, k1, k2, k3⟩ := ring4 (s4.blk 0 rfl)
  have PL := Lib.hid (place_c k0 n0 n1 s.put (by omega))
  have c2 := lis_cell0 (s4.lis 1 rfl) (plcs_get s hk)
  have f2 := (s4.lis 1 rfl).frozen (s.put % n)
  have e := put_plcs HS.out (show s.put < s.reaped + n by omega) d.inR
  obtain ⟨c0, c1, c3, c4, c5, c6, c7, c8, c9⟩ := dsc9 d.inR _ w.heap.size (s4.blk 2 rfl)
  have s5 := s4.lis_set 1 rfl (show s.put % n < n * 1 by omega) (.iface 36 d.inR.v)
  rw [Nat.zero_add] at s5
  rw [e] at s5
  obtain ⟨j, hj⟩ : ∃ j, s.put % n = j := ⟨_, rfl⟩
  rw [hj] at PL c2 f2 s5 hk
  obtain ⟨v, hv⟩ : ∃ v, plc n s j = v := ⟨_, rfl⟩
  rw [hv] at c2
  have s5' : St w S _ [BlkR p 62 #[.slice (some ⟨g, 0, none⟩) n n, .int .i64 s.put, .int .i64 s.taken, .int .i64 s.reaped], _, _] := s5
  obtain ⟨m0, m1, m2, m3⟩ := ring4 (s5'.blk 0 rfl)
  have f3 := (s5'.blk 0 rfl).frozen 1
  have s6 := s5'.set_ 0 rfl 1 (.int .i64 (P + 1))
  rw [hP] at j1 k1 m1 PL
  have S7 : St w S ((w4.setCell ⟨g, j, none⟩ (.iface 36 d.inR.v)).setCell ⟨p, 1, none⟩ (.int .i64 (P + 1))) (RingL p g n ⟨s.put + 1, s.taken, s.reaped, setD s.D s.put d.inR⟩) := by
    unfold RingL
    dsimp only
    rw [show ((s.put + 1 : Nat) : Int) = P + 1 by omega]
    exact s6.take 2
  have S8 := Lib.hid S7
  unfold Dsc.v at S8 m0 m1 m2 m3 f3
  dsimp only [Dsc.inR] at c0 c1 c3 c4 c5 c6 c7 c8 c9 S8 m0 m1 m2 m3 f3
  clear s3 s4 s5 s5' s6 S7 hw4 hj hv e S2 HP MY HS HY hfull hp hrp
  have HPP := Lib.hid hP
  clear hP hR
  go_wp2_with fail
  refine wp_region_still_tail 10 (by kernel_rfl) (by kernel_rfl) ?_
  rw [HW4.out]
  simp only [List.take_succ_cons, List.take_zero, List.drop_succ_cons, List.drop_zero]
  repeat (first | still_step | still_call PL.out)
  refine wpStill_nil ?_
  go_wp2_with fail
  go_ret2
  exact ⟨by rw [HPP.out]; rfl, S8.out.fin fun S' h => ⟨g, h⟩⟩
end
end Go.Proofs.Ytboepnfekfhppaa
