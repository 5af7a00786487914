/- Layer 10: a step of a ring. -/
import Derived.Test.YtboepnfekfhppaaRingW
namespace Go.Proofs.Ytboepnfekfhppaa
open Go.RowKit
set_option linter.unusedVariables false
set_option maxRecDepth 100000
set_option maxHeartbeats 2000000
theorem Rs.same {w wr : World} {ib off : Nat} {n : Nat} {E : Nat → RDo} (h : Rs w (some ⟨ib, off, none⟩) n E) (hb : Below w.heap.size w wr) {k : Nat} (hk : k < n) :
    wr.cell? ⟨ib, off + k * 12 + 10, none⟩ = some (.int .i64 (E k).no) ∧ wr.cell? ⟨ib, off + k * 12 + 11, none⟩ = some (.int .i64 (E k).st) := by
  obtain ⟨b, o, e, -, -, -, -, -, -, -, -, -, -, h1, h2⟩ := h.at_ hb hk
  injection e with e
  injection e with e1 e2
  subst e1 e2
  exact ⟨h1, h2⟩
theorem Rs.same12 {w wr : World} {ib off : Nat} {n : Nat} {E : Nat → RDo} (h : Rs w (some ⟨ib, off, none⟩) n E) (hb : Below w.heap.size w wr) {k : Nat} (hk : k < n) :
    wr.cell? ⟨ib, off + k * 12, none⟩ = some (.int .i64 (E k).z) ∧ wr.cell? ⟨ib, off + k * 12 + 1, none⟩ = some (.int .i64 (E k).d.op) ∧ wr.cell? ⟨ib, off + k * 12 + 2, none⟩ = some (.int .i64 (E k).d.req) ∧ wr.cell? ⟨ib, off + k * 12 + 3, none⟩ = some (.int .i64 (E k).d.slot) ∧ wr.cell? ⟨ib, off + k * 12 + 4, none⟩ = some (.int .u64 (E k).d.gen) ∧ wr.cell? ⟨ib, off + k * 12 + 5, none⟩ = some (.int .i64 (E k).d.frm) ∧ wr.cell? ⟨ib, off + k * 12 + 6, none⟩ = some (.int .i64 (E k).d.len) ∧ wr.cell? ⟨ib, off + k * 12 + 7, none⟩ = some (.bool (E k).d.dv) ∧ wr.cell? ⟨ib, off + k * 12 + 8, none⟩ = some (.bool (E k).d.dn) ∧ wr.cell? ⟨ib, off + k * 12 + 9, none⟩ = some (.int .i64 (E k).d.st) ∧ wr.cell? ⟨ib, off + k * 12 + 10, none⟩ = some (.int .i64 (E k).no) ∧ wr.cell? ⟨ib, off + k * 12 + 11, none⟩ = some (.int .i64 (E k).st) := by
  obtain ⟨b, o, e, hh⟩ := h.at_ hb hk
  injection e with e
  injection e with e1 e2
  subst e1 e2
  exact hh
def StepP (n : Nat) (s : RSt) (x : RDo) (o : Dsc) (f : Int) (s' : RSt) : Prop :=
  (x.z = 0 ∧ ∃ a, PutP n s x.d a f s' ∧ o = ⟨0, a, 0, 0, 0, 0, false, false, 0⟩) ∨ (x.z = 1 ∧ ∃ a, TakeP s a o f s') ∨ (x.z = 2 ∧ FinP s x.no x.st f s' ∧ o = dZ) ∨ ((x.z ≠ 0 ∧ x.z ≠ 1 ∧ x.z ≠ 2) ∧ ReapP s o f s')
theorem stepP_ex {n : Nat} {s : RSt} (h : s.ok n) (x : RDo) : ∃ o f s', StepP n s x o f s' := by
  by_cases h0 : x.z = 0
  · obtain ⟨a, f, s', hP⟩ := putP_ex h x.d
    exact ⟨_, _, _, Or.inl ⟨h0, a, hP, rfl⟩⟩
  by_cases h1 : x.z = 1
  · obtain ⟨a, o, f, s', hP⟩ := takeP_ex h
    exact ⟨_, _, _, Or.inr (Or.inl ⟨h1, a, hP⟩)⟩
  by_cases h2 : x.z = 2
  · obtain ⟨f, s', hP⟩ := finP_ex s x.no x.st
    exact ⟨_, _, _, Or.inr (Or.inr (Or.inl ⟨h2, hP, rfl⟩))⟩
  · obtain ⟨o, f, s', hP⟩ := reapP_ex h
    exact ⟨_, _, _, Or.inr (Or.inr (Or.inr ⟨⟨h0, h1, h2⟩, hP⟩))⟩
theorem StepP.fine_ok {n : Nat} {s s' : RSt} {x : RDo} {o : Dsc} {f : Int} (h : StepP n s x o f s') (hs : s.ok n) (hf : s.fine) (hm : s.put + 1 ≤ 1000000) : s'.ok n ∧ s'.fine ∧ s'.put ≤ s.put + 1 := by
  rcases h with ⟨_, a, hP, _⟩ | ⟨_, a, hP⟩ | ⟨_, hP, _⟩ | ⟨_, hP⟩
  · exact hP.fine_ok hs hf hm
  · exact hP.fine_ok hs hf
  · exact hP.fine_ok hs hf
  · exact hP.fine_ok hs hf
section
variable {w0 w : World} {S0 S : Nat → Prop} {L : List Res} {p n : Nat} {s s' : RSt}
theorem step_c (h : RingR p n s w S) (hs : s.ok n) (x : RDo) (hf : x.d.fits) (o : Dsc) (f : Int) (hP : StepP n s x o f s') (hm : s.put + 1 ≤ 1000000) :
    Calls Try.prog 24 #[.pointer (some ⟨p, 0, none⟩), .agg #[.int .i64 x.z, .int .i64 x.d.op, .int .i64 x.d.req, .int .i64 x.d.slot, .int .u64 x.d.gen, .int .i64 x.d.frm, .int .i64 x.d.len, .bool x.d.dv, .bool x.d.dn, .int .i64 x.d.st, .int .i64 x.no, .int .i64 x.st]] w fun e w' => e = .returned (.tuple #[o.v, .int .i64 f]) ∧ ∃ S', RingR p n s' w' S' ∧ Did S S' w w' := by
  have s0 : St w S w [RingR p n s] := St.start (Star.one (RingR.ok _ _ _) h)
  have sa : St w S (w.alloc (.cells #[.int .i64 x.z, .int .i64 x.d.op, .int .i64 x.d.req, .int .i64 x.d.slot, .int .u64 x.d.gen, .int .i64 x.d.frm, .int .i64 x.d.len, .bool x.d.dv, .bool x.d.dn, .int .i64 x.d.st, .int .i64 x.no, .int .i64 x.st] 38)) [RingR p n s, BlkR w.heap.size 38 x.cells] := St.box (L := [_]) s0 _ _
  have sb : St w S ((w.alloc (.cells #[.int .i64 x.z, .int .i64 x.d.op, .int .i64 x.d.req, .int .i64 x.d.slot, .int .u64 x.d.gen, .int .i64 x.d.frm, .int .i64 x.d.len, .bool x.d.dv, .bool x.d.dn, .int .i64 x.d.st, .int .i64 x.no, .int .i64 x.st] 38)).alloc (.cells #[.int .i64 0, .int .i64 0, .int .i64 0, .int .u64 0, .int .i64 0, .int .i64 0, .bool false, .bool false, .int .i64 0] 36)) [RingR p n s, BlkR w.heap.size 38 x.cells, BlkR (w.heap.size + 1) 36 dZ.cells] := by
    have h := St.box (L := [_, _]) sa 36 dZ.cells
    rw [show (w.alloc (.cells #[.int .i64 x.z, .int .i64 x.d.op, .int .i64 x.d.req, .int .i64 x.d.slot, .int .u64 x.d.gen, .int .i64 x.d.frm, .int .i64 x.d.len, .bool x.d.dv, .bool x.d.dn, .int .i64 x.d.st, .int .i64 x.no, .int .i64 x.st] 38)).heap.size = w.heap.size + 1 by simp] at h
    exact h
  have SB := Lib.hid sb
  have HS := Lib.hid hs
  have HF := Lib.hid hf
  obtain ⟨b0, b1, b2, b3, b4, b5, b6, b7, b8, b9, b10, b11⟩ := do12 (sb.blk 1 rfl)
  clear s0 sa sb h hs hf
  obtain ⟨z, ⟨op, req, slot, gen, frm, len, dv, dn, dst⟩, no, st⟩ := x
  unfold StepP at hP
  dsimp only at hP b0 b1 b2 b3 b4 b5 b6 b7 b8 b9 b10 b11 SB HF ⊢
  rcases hP with ⟨rfl, a, hP, rfl⟩ | ⟨rfl, a, hP⟩ | ⟨rfl, hP, rfl⟩ | ⟨⟨h0, h1, h2⟩, hP⟩
  · have HP := Lib.hid hP
    clear hP
    go_enter Try.func24, Try.ntmps24
    go_wp2_with fail
    refine (Put_o SB.out 0 rfl HS.out ⟨op, req, slot, gen, frm, len, dv, dn, dst⟩ HF.out a f HP.out hm).mono ?_
    rintro r' w3 ⟨rfl, s3'⟩
    have s3 : St w S w3 [RingR p n s', _, BlkR (w.heap.size + 1) 36 dZ.cells] := s3'
    clear s3' SB b0 b1 b2 b3 b4 b5 b6 b7 b8 b9 b10 b11
    obtain ⟨c0, c1, c2, c3, c4, c5, c6, c7, c8⟩ := dsc9 dZ _ _ (s3.blk 2 rfl)
    obtain ⟨y0, y1, y2, y3, y4, y5, y6, y7, y8⟩ := frz9 (s3.blk 2 rfl)
    have S3 := Lib.hid s3
    clear s3
    go_wp2_with fail
    refine bodyPost_ret (v := .tuple #[(⟨0, a, 0, 0, 0, 0, false, false, 0⟩ : Dsc).v, .int .i64 f]) ?_ rfl ⟨rfl, ?_⟩
    · simp [results, go_sem, Dsc.v, dZ, c0, c1, c2, c3, c4, c5, c6, c7, c8]
    · exact ((((((((((S3.out.set_ 2 rfl 0 _).set_ 2 rfl 1 _).set_ 2 rfl 2 _).set_ 2 rfl 3 _).set_ 2 rfl 4 _).set_ 2 rfl 5 _).set_ 2 rfl 6 _).set_ 2 rfl 7 _).set_ 2 rfl 8 _).take 1).fin fun S' h => star_one h
  · have HP := Lib.hid hP
    clear hP
    go_enter Try.func24, Try.ntmps24
    go_wp2_with fail
    refine (Take_o SB.out 0 rfl HS.out a f o HP.out).mono ?_
    rintro r' w2 ⟨rfl, s2⟩
    have s3 : St w S (w2.alloc (.cells o.cells 36)) [RingR p n s', _, BlkR (w.heap.size + 1) 36 dZ.cells, BlkR w2.heap.size 36 o.cells] := St.box (L := [_, _, _]) s2 _ _
    obtain ⟨q0, q1, q2, q3, q4, q5, q6, q7, q8⟩ := dsc9 o _ _ (s3.blk 3 rfl)
    clear SB b0 b1 b2 b3 b4 b5 b6 b7 b8 b9 b10 b11 s2
    unfold Dsc.cells at q0 q1 q2 q3 q4 q5 q6 q7 q8 s3
    unfold Dsc.v
    go_upto_region 7 with (fail)
    generalize w2.alloc (.cells #[.int .i64 o.op, .int .i64 o.req, .int .i64 o.slot, .int .u64 o.gen, .int .i64 o.frm, .int .i64 o.len, .bool o.dv, .bool o.dn, .int .i64 o.st] 36) = w3 at *
    obtain ⟨c0, c1, c2, c3, c4, c5, c6, c7, c8⟩ := dsc9 dZ _ _ (s3.blk 2 rfl)
    obtain ⟨y0, y1, y2, y3, y4, y5, y6, y7, y8⟩ := frz9 (s3.blk 2 rfl)
    have S3 := Lib.hid s3
    clear s3
    go_wp2_with fail
    refine bodyPost_ret (v := .tuple #[o.v, .int .i64 f]) ?_ rfl ⟨rfl, ?_⟩
    · simp [results, go_sem, Dsc.v, dZ, c0, c1, c2, c3, c4, c5, c6, c7, c8]
    · exact ((((((((((S3.out.set_ 2 rfl 0 _).set_ 2 rfl 1 _).set_ 2 rfl 2 _).set_ 2 rfl 3 _).set_ 2 rfl 4 _).set_ 2 rfl 5 _).set_ 2 rfl 6 _).set_ 2 rfl 7 _).set_ 2 rfl 8 _).take 1).fin fun S' h => star_one h
  · have HP := Lib.hid hP
    clear hP
    go_enter Try.func24, Try.ntmps24
    go_wp2_with fail
    refine (Finish_o SB.out 0 rfl HS.out no st f HP.out).mono ?_
    rintro r' w3 ⟨rfl, s3'⟩
    have s3 : St w S w3 [RingR p n s', _, BlkR (w.heap.size + 1) 36 dZ.cells] := s3'
    clear s3' SB b0 b1 b2 b3 b4 b5 b6 b7 b8 b9 b10 b11
    obtain ⟨c0, c1, c2, c3, c4, c5, c6, c7, c8⟩ := dsc9 dZ _ _ (s3.blk 2 rfl)
    obtain ⟨y0, y1, y2, y3, y4, y5, y6, y7, y8⟩ := frz9 (s3.blk 2 rfl)
    have S3 := Lib.hid s3
    clear s3
    go_wp2_with fail
    refine bodyPost_ret (v := .tuple #[dZ.v, .int .i64 f]) ?_ rfl ⟨rfl, ?_⟩
    · simp [results, go_sem, Dsc.v, dZ, c0, c1, c2, c3, c4, c5, c6, c7, c8]
    · exact ((((((((((S3.out.set_ 2 rfl 0 _).set_ 2 rfl 1 _).set_ 2 rfl 2 _).set_ 2 rfl 3 _).set_ 2 rfl 4 _).set_ 2 rfl 5 _).set_ 2 rfl 6 _).set_ 2 rfl 7 _).set_ 2 rfl 8 _).take 1).fin fun S' h => star_one h
  · have HP := Lib.hid hP
    have z0 : (z == 0) = false := beq_eq_false_iff_ne.2 h0
    have z1 : (z == 1) = false := beq_eq_false_iff_ne.2 h1
    have z2 : (z == 2) = false := beq_eq_false_iff_ne.2 h2
    clear hP h0 h1 h2
    go_enter Try.func24, Try.ntmps24
    go_wp2_with fail
    refine (Reap_o SB.out 0 rfl HS.out o f HP.out).mono ?_
    rintro r' w3 ⟨rfl, s3'⟩
    have s3 : St w S w3 [RingR p n s', _, BlkR (w.heap.size + 1) 36 dZ.cells] := s3'
    clear s3' SB b0 b1 b2 b3 b4 b5 b6 b7 b8 b9 b10 b11
    unfold Dsc.v
    obtain ⟨c0, c1, c2, c3, c4, c5, c6, c7, c8⟩ := dsc9 dZ _ _ (s3.blk 2 rfl)
    obtain ⟨y0, y1, y2, y3, y4, y5, y6, y7, y8⟩ := frz9 (s3.blk 2 rfl)
    have S3 := Lib.hid s3
    clear s3
    go_wp2_with fail
    refine bodyPost_ret (v := .tuple #[o.v, .int .i64 f]) ?_ rfl ⟨rfl, ?_⟩
    · simp [results, go_sem, Dsc.v, dZ, c0, c1, c2, c3, c4, c5, c6, c7, c8]
    · exact ((((((((((S3.out.set_ 2 rfl 0 _).set_ 2 rfl 1 _).set_ 2 rfl 2 _).set_ 2 rfl 3 _).set_ 2 rfl 4 _).set_ 2 rfl 5 _).set_ 2 rfl 6 _).set_ 2 rfl 7 _).set_ 2 rfl 8 _).take 1).fin fun S' h => star_one h
theorem step_o (H : St w0 S0 w L) (i : Nat) (hi : L[i]? = some (RingR p n s)) (hs : s.ok n) (x : RDo) (hf : x.d.fits) (o : Dsc) (f : Int) (hP : StepP n s x o f s') (hm : s.put + 1 ≤ 1000000) :
    Calls Try.prog 24 #[.pointer (some ⟨p, 0, none⟩), .agg #[.int .i64 x.z, .int .i64 x.d.op, .int .i64 x.d.req, .int .i64 x.d.slot, .int .u64 x.d.gen, .int .i64 x.d.frm, .int .i64 x.d.len, .bool x.d.dv, .bool x.d.dn, .int .i64 x.d.st, .int .i64 x.no, .int .i64 x.st]] w fun e w' => e = .returned (.tuple #[o.v, .int .i64 f]) ∧ St w0 S0 w' (L.set i (RingR p n s')) :=
  St.call (fun w S h => step_c h hs x hf o f hP hm) (RingR.ok _ _ _) H i hi
end
end Go.Proofs.Ytboepnfekfhppaa
