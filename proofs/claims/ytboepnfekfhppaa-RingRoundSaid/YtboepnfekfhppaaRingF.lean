/- Layer 10: the program's ring: Finish, Reap. -/
import Derived.Test.YtboepnfekfhppaaRingE
namespace Go.Proofs.Ytboepnfekfhppaa
open Go.RowKit
set_option linter.unusedVariables false
set_option maxRecDepth 100000
set_option maxHeartbeats 1000000
section
variable {w0 w : World} {S0 S : Nat → Prop} {L : List Res} {p g n : Nat} {s s' : RSt}
theorem Finish_c (h : RingR p n s w S) (hs : s.ok n) (no st f : Int) (hP : FinP s no st f s') :
    Calls Try.prog 14 #[.pointer (some ⟨p, 0, none⟩), .int .i64 no, .int .i64 st] w fun e w' => e = .returned (.int .i64 f) ∧ ∃ S', RingR p n s' w' S' ∧ Did S S' w w' := by
  have HP := Lib.hid hP
  clear hP
  have SU := Lib.hid (fun no h0 h1 => sure_c h hs no h0 h1)
  have HS := Lib.hid hs
  obtain ⟨g, hr⟩ := h
  have s0 := St.start hr
  obtain ⟨k0, k1, k2, k3⟩ := ring4 (s0.blk 0 rfl)
  have SB := Lib.hid s0
  have hm := hs.m
  have hrt := hs.r
  have htp := hs.t
  have n0 := hs.n0
  have n1 := hs.n1
  clear hs hr s0
  by_cases q1 : st < 0
  · have d1 : decide (st < 0) = true := decide_eq_true q1
    obtain ⟨rfl, rfl⟩ : f = 1 ∧ s' = s := by
      rcases HP.out with ⟨_, h⟩ | ⟨h, _⟩ | ⟨h, _⟩
      · exact h
      · omega
      · omega
    go_enter Try.func14, Try.ntmps14
    go_wp2_with fail
    go_ret
    exact ⟨rfl, SB.out.fin fun S' h => ⟨g, h⟩⟩
  have d1 : decide (st < 0) = false := decide_eq_false q1
  by_cases q2 : 255 < st
  · have d2 : decide (255 < st) = true := decide_eq_true q2
    obtain ⟨rfl, rfl⟩ : f = 1 ∧ s' = s := by
      rcases HP.out with ⟨_, h⟩ | ⟨h, _⟩ | ⟨h, _⟩
      · exact h
      · omega
      · omega
    go_enter Try.func14, Try.ntmps14
    go_wp2_with fail
    go_ret
    exact ⟨rfl, SB.out.fin fun S' h => ⟨g, h⟩⟩
  have d2 : decide (255 < st) = false := decide_eq_false q2
  by_cases q3 : no < s.reaped
  · have d3 : decide (no < (s.reaped : Int)) = true := decide_eq_true q3
    obtain ⟨rfl, rfl⟩ : f = 12 ∧ s' = s := by
      rcases HP.out with ⟨h, _⟩ | ⟨_, _, h⟩ | ⟨_, h, _⟩
      · omega
      · exact h
      · omega
    go_enter Try.func14, Try.ntmps14
    go_wp2_with fail
    go_ret
    exact ⟨rfl, SB.out.fin fun S' h => ⟨g, h⟩⟩
  have d3 : decide (no < (s.reaped : Int)) = false := decide_eq_false q3
  by_cases q4 : (s.taken : Int) ≤ no
  · have d4 : decide ((s.taken : Int) ≤ no) = true := decide_eq_true q4
    obtain ⟨rfl, rfl⟩ : f = 12 ∧ s' = s := by
      rcases HP.out with ⟨h, _⟩ | ⟨_, _, h⟩ | ⟨_, _, h, _⟩
      · omega
      · exact h
      · omega
    go_enter Try.func14, Try.ntmps14
    go_wp2_with fail
    go_ret
    exact ⟨rfl, SB.out.fin fun S' h => ⟨g, h⟩⟩
  have d4 : decide ((s.taken : Int) ≤ no) = false := decide_eq_false q4
  obtain ⟨k, rfl⟩ : ∃ k : Nat, (k : Int) = no := ⟨no.toNat, by omega⟩
  have h1 : s.reaped ≤ k := by omega
  have h2 : k < s.taken := by omega
  have d3' : decide (k < s.reaped) = false := decide_eq_false (by omega)
  have d4' : decide (s.taken ≤ k) = false := decide_eq_false (by omega)
  have SC := Lib.hid (SU.out k h1 (by omega))
  have hk := Nat.mod_lt k (show 0 < n by omega)
  have FI := Lib.hid (fin_plcs HS.out h1 (show k < s.put by omega) ((s.D k).fin st))
  have hfn : ((s.D k).dn = true ∧ f = 12 ∧ s' = s) ∨ ((s.D k).dn = false ∧ f = 0 ∧ s' = ⟨s.put, s.taken, s.reaped, setD s.D k ((s.D k).fin st)⟩) := by
    rcases HP.out with ⟨h, _⟩ | ⟨_, h, hh⟩ | ⟨_, _, _, h, hh⟩
    · omega
    · rcases h with h | h | h
      · omega
      · omega
      · rw [Int.toNat_natCast] at h; exact Or.inl ⟨h, hh⟩
    · rw [Int.toNat_natCast] at h hh; exact Or.inr ⟨h, hh⟩
  have hm' : k ≤ 1000000 := by omega
  clear hm hrt htp h1 h2 HP SU q1 q2 q3 q4
  obtain ⟨d, hd⟩ : ∃ d, s.D k = d := ⟨_, rfl⟩
  rw [hd] at SC FI hfn
  unfold Dsc.v at SC
  clear hd
  go_enter Try.func14, Try.ntmps14
  go_wp2_with fail
  refine SC.out.mono ?_
  rintro e w1 ⟨rfl, hb1⟩
  have s1 : St w S w1 [BlkR p 62 #[.slice (some ⟨g, 0, none⟩) n n, .int .i64 s.put, .int .i64 s.taken, .int .i64 s.reaped], LisR 20 1 (.slice (some ⟨g, 0, none⟩) n n) n (plcs n s)] := SB.out.stay hb1
  clear hb1 SC SB k0 k1 k2 k3
  rcases hfn with ⟨hdn, rfl, rfl⟩ | ⟨hdn, rfl, rfl⟩
  · have S2 := Lib.hid (s1.alloc (.cells #[.int .i64 d.op, .int .i64 d.req, .int .i64 d.slot, .int .u64 d.gen, .int .i64 d.frm, .int .i64 d.len, .bool d.dv, .bool true, .int .i64 d.st] 36))
    rw [hdn]
    clear s1 hdn FI HS
    go_wp2_with fail
    go_ret
    exact ⟨rfl, S2.out.fin fun S' h => ⟨g, h⟩⟩
  · have s2 : St w S (w1.alloc (.cells #[.int .i64 d.op, .int .i64 d.req, .int .i64 d.slot, .int .u64 d.gen, .int .i64 d.frm, .int .i64 d.len, .bool false, .bool true, .int .i64 st] 36)) [BlkR p 62 #[.slice (some ⟨g, 0, none⟩) n n, .int .i64 s.put, .int .i64 s.taken, .int .i64 s.reaped], LisR 20 1 (.slice (some ⟨g, 0, none⟩) n n) n (plcs n s), BlkR w1.heap.size 36 (d.fin st).cells] := s1.box 36 (d.fin st).cells
    obtain ⟨w2, hw2⟩ : ∃ x, w1.alloc (.cells #[.int .i64 d.op, .int .i64 d.req, .int .i64 d.slot, .int .u64 d.gen, .int .i64 d.frm, .int .i64 d.len, .bool false, .bool true, .int .i64 st] 36) = x := ⟨_, rfl⟩
    rw [hw2] at s2
    have HW2 := Lib.hid hw2
    have s3 := s2.drew
    obtain ⟨w3, hw3⟩ : ∃ x, w2.drew = x := ⟨_, rfl⟩
    rw [hw3] at s3
    have HW3 := Lib.hid (show ({ heap := w2.heap, tape := w2.tape, drawn := w2.drawn + 1, os := w2.os, output := w2.output } : World) = w3 from hw3)
    obtain ⟨k0, k1, k2, k3⟩ := ring4 (s3.blk 0 rfl)
    have PL := Lib.hid (place_c k0 n0 n1 k hm')
    have c2 := lis_cell0 (s3.lis 1 rfl) (plcs_get s hk)
    have f2 := (s3.lis 1 rfl).frozen (k % n)
    obtain ⟨c0, c1, c3, c4, c5, c6, c7, c8, c9⟩ := dsc9 (d.fin st) _ w1.heap.size (s3.blk 2 rfl)
    dsimp only [Dsc.fin] at c0 c1 c3 c4 c5 c6 c7 c8 c9
    have s5 := s3.lis_set 1 rfl (show k % n < n * 1 by omega) (.iface 36 (d.fin st).v)
    rw [Nat.zero_add, FI.out] at s5
    have S5 := Lib.hid (s5.take 2)
    obtain ⟨j, hj⟩ : ∃ j, k % n = j := ⟨_, rfl⟩
    rw [hj] at PL c2 f2 S5 hk
    obtain ⟨v, hv⟩ : ∃ v, plc n s j = v := ⟨_, rfl⟩
    rw [hv] at c2
    clear hw2 hw3 s1 s2 s3 s5 hj hv FI HS
    rw [hdn]
    clear hdn
    go_wp2_with fail
    rw [HW2.out]
    go_wp2_with fail
    refine wp_region_still_tail 10 (by kernel_rfl) (by kernel_rfl) ?_
    rw [HW3.out]
    simp only [List.take_succ_cons, List.take_zero, List.drop_succ_cons, List.drop_zero]
    repeat (first | still_step | still_call PL.out)
    refine wpStill_nil ?_
    go_wp2_with fail

    go_ret
    exact ⟨rfl, S5.out.fin fun S' h => ⟨g, h⟩⟩
end
end Go.Proofs.Ytboepnfekfhppaa
