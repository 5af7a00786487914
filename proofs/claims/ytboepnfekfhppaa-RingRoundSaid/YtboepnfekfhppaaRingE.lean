/- Layer 10: the program's ring: Take, Counts, At. -/
import Derived.Test.YtboepnfekfhppaaRingD
namespace Go.Proofs.Ytboepnfekfhppaa
open Go.RowKit
set_option linter.unusedVariables false
set_option maxRecDepth 100000
set_option maxHeartbeats 1000000
section
variable {w0 w : World} {S0 S : Nat → Prop} {L : List Res} {p g n : Nat} {s s' : RSt}
theorem ring_open (h : RingR p n s w S) : ∃ g, Star (RingL p g n s) w S := h
theorem Counts_c (h : RingR p n s w S) :
    Calls Try.prog 21 #[.pointer (some ⟨p, 0, none⟩)] w fun e w' => e = .returned (.tuple #[.int .i64 s.put, .int .i64 s.taken, .int .i64 s.reaped]) ∧ Below w.heap.size w w' := by
  obtain ⟨g, hr⟩ := h
  obtain ⟨k0, k1, k2, k3⟩ := ring4 ((St.start hr).blk 0 rfl)
  go_enter Try.func21, Try.ntmps21
  go_wp2_with fail
  first
    | (refine bodyPost_ret (v := .tuple #[.int .i64 s.put, .int .i64 s.taken, .int .i64 s.reaped]) ?_ rfl ⟨rfl, Below.refl _ _⟩
       simp [results, go_sem])
    | (go_quiet (fail)
       go_wp2_with fail
       refine bodyPost_ret (v := .tuple #[.int .i64 s.put, .int .i64 s.taken, .int .i64 s.reaped]) ?_ rfl ⟨rfl, below_drewN (Below.refl _ _) _⟩
       simp [results, go_sem])
theorem Take_c (h : RingR p n s w S) (hs : s.ok n) (a f : Int) (d : Dsc) (hP : TakeP s a d f s') :
    Calls Try.prog 12 #[.pointer (some ⟨p, 0, none⟩)] w fun e w' => e = .returned (.tuple #[.int .i64 a, d.v, .int .i64 f]) ∧ ∃ S', RingR p n s' w' S' ∧ Did S S' w w' := by
  have SU := Lib.hid (fun (w : World) S (s : RSt) (h : RingR p n s w S) (hs : s.ok n) no h0 h1 => sure_c h hs no h0 h1)
  obtain ⟨g, hr⟩ := h
  have sb : St w S (w.alloc (.cells #[.int .i64 0, .int .i64 0, .int .i64 0, .int .u64 0, .int .i64 0, .int .i64 0, .bool false, .bool false, .int .i64 0] 36)) [BlkR p 62 #[.slice (some ⟨g, 0, none⟩) n n, .int .i64 s.put, .int .i64 s.taken, .int .i64 s.reaped], LisR 20 1 (.slice (some ⟨g, 0, none⟩) n n) n (plcs n s), BlkR w.heap.size 36 dZ.cells] := (St.start hr).box 36 dZ.cells
  have HS := Lib.hid hs
  have hm := hs.m
  have ht := hs.t
  obtain ⟨k0, k1, k2, k3⟩ := ring4 (sb.blk 0 rfl)
  obtain ⟨P, hP1⟩ : ∃ P : Int, (s.put : Int) = P := ⟨_, rfl⟩
  obtain ⟨T, hT⟩ : ∃ P : Int, (s.taken : Int) = P := ⟨_, rfl⟩
  rw [hP1] at k1
  rw [hT] at k2
  have SB := Lib.hid sb
  clear hr hs sb
  rcases hP with ⟨hx, rfl, rfl, rfl, rfl⟩ | ⟨hx, rfl, rfl, rfl, rfl⟩
  · have z1 : (T == P) = true := beq_iff_eq.2 (by omega)
    clear hP1 hT hx
    go_enter Try.func12, Try.ntmps12
    go_wp2_with fail
    go_quiet (fail)
    have s2 := SB.out.drewN nq
    generalize (w.alloc (.cells #[.int .i64 0, .int .i64 0, .int .i64 0, .int .u64 0, .int .i64 0, .int .i64 0, .bool false, .bool false, .int .i64 0] 36)).drewN nq = w2 at *
    obtain ⟨c0, c1, c2, c3, c4, c5, c6, c7, c8⟩ := dsc9 dZ _ w.heap.size (s2.blk 2 rfl)
    obtain ⟨z0, z1, z2, z3, z4, z5, z6, z7, z8⟩ := frz9 (s2.blk 2 rfl)
    have S2 := Lib.hid s2
    clear s2
    go_wp2_with fail
    refine bodyPost_ret (v := .tuple #[.int .i64 0, dZ.v, .int .i64 5]) ?_ rfl ⟨rfl, ?_⟩
    · simp [results, go_sem, Dsc.v, dZ, c0, c1, c2, c3, c4, c5, c6, c7, c8]
    · exact ((((((((((S2.out.set_ 2 rfl 0 _).set_ 2 rfl 1 _).set_ 2 rfl 2 _).set_ 2 rfl 3 _).set_ 2 rfl 4 _).set_ 2 rfl 5 _).set_ 2 rfl 6 _).set_ 2 rfl 7 _).set_ 2 rfl 8 _).take 2).fin fun S' h => ⟨g, h⟩
  · have z1 : (T == P) = false := beq_eq_false_iff_ne.2 (by omega)
    have b0 : 0 ≤ T ∧ T ≤ 1000000 := by omega
    have hl : s.reaped ≤ s.taken := HS.out.r
    have HT := Lib.hid hT
    clear hP1
    go_enter Try.func12, Try.ntmps12
    go_wp2_with fail
    go_quiet (fail)
    have s2 := SB.out.drewN nq
    generalize (w.alloc (.cells #[.int .i64 0, .int .i64 0, .int .i64 0, .int .u64 0, .int .i64 0, .int .i64 0, .bool false, .bool false, .int .i64 0] 36)).drewN nq = w2 at *
    clear k0 k1 k2 k3
    obtain ⟨k0, k1, k2, k3⟩ := ring4 (s2.blk 0 rfl)
    rw [hT] at k2
    have f2 := (s2.blk 0 rfl).frozen 2
    have s3 := s2.set_ 0 rfl 2 (.int .i64 (T + 1))
    have s4 : St w S (w2.setCell ⟨p, 2, none⟩ (.int .i64 (T + 1))) [RingR p n ⟨s.put, s.taken + 1, s.reaped, s.D⟩, BlkR w.heap.size 36 dZ.cells] := by
      have s5 : St w S (w2.setCell ⟨p, 2, none⟩ (.int .i64 (T + 1))) ([BlkR w.heap.size 36 dZ.cells] ++ RingL p g n ⟨s.put, s.taken + 1, s.reaped, s.D⟩) := by
        have s6 := St.comm (A := [BlkR p 62 _, LisR _ _ _ _ _]) (B := [BlkR w.heap.size 36 dZ.cells]) s3
        unfold RingL
        dsimp only
        rw [show ((s.taken + 1 : Nat) : Int) = T + 1 by omega]
        exact s6
      exact (s5.fold (R := RingR p n ⟨s.put, s.taken + 1, s.reaped, s.D⟩) (RingR.ok _ _ _) fun S h => ⟨g, h⟩).swap01
    obtain ⟨Q, hQ⟩ := s4.get 0 rfl
    have SC := Lib.hid (SU.out _ _ _ hQ ⟨by show s.reaped ≤ s.taken + 1; omega, by show s.taken + 1 ≤ s.put; omega, HS.out.p, HS.out.m, HS.out.n0, HS.out.n1⟩ s.taken hl hx)
    have S4 := Lib.hid s4
    rw [hT] at SC
    dsimp only at SC
    obtain ⟨d, hd⟩ : ∃ d, s.D s.taken = d := ⟨_, rfl⟩
    rw [hd] at SC
    have HD := Lib.hid hd
    clear s2 s3 s4 hQ hT hx hl hd
    go_wp2_with fail
    refine SC.out.mono ?_
    rintro e w5 ⟨rfl, hb5⟩
    have s5 := S4.out.stay hb5
    obtain ⟨c0, c1, c2, c3, c4, c5, c6, c7, c8⟩ := dsc9 dZ _ w.heap.size (s5.blk 1 rfl)
    obtain ⟨z0, z1, z2, z3, z4, z5, z6, z7, z8⟩ := frz9 (s5.blk 1 rfl)
    have S5 := Lib.hid s5
    clear s5 hb5
    unfold Dsc.v
    go_wp2_with fail
    refine bodyPost_ret (v := .tuple #[.int .i64 T, d.v, .int .i64 0]) ?_ rfl ⟨by rw [HT.out, HD.out], ?_⟩
    · simp [results, go_sem, Dsc.v, c0, c1, c2, c3, c4, c5, c6, c7, c8]
    · exact ((((((((((S5.out.set_ 1 rfl 0 _).set_ 1 rfl 1 _).set_ 1 rfl 2 _).set_ 1 rfl 3 _).set_ 1 rfl 4 _).set_ 1 rfl 5 _).set_ 1 rfl 6 _).set_ 1 rfl 7 _).set_ 1 rfl 8 _).take 1).fin fun S' h => star_one h
end
end Go.Proofs.Ytboepnfekfhppaa
