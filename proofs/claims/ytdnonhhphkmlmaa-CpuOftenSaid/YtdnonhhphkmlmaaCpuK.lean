/- Layer 17: a processor: a tick, by who runs. -/
import Derived.Test.YtdnonhhphkmlmaaCpuJ
namespace Go.Proofs.Ytdnonhhphkmlmaa
open Go.RowKit
set_option linter.unusedVariables false
set_option maxRecDepth 100000
set_option maxHeartbeats 4000000
/-- What a step tells. -/
def StepQ (w0 : World) (S0 : Nat → Prop) (X : List Res) (p : Pl) (T : Nat → CTk) (V : Nat → Sv) (now : Int) (s : QS) (who : Int) (ld lc lm : List Nat) (e : Ending) (w' : World) : Prop :=
  ∃ D cd C cc M cm, e = .returned (.tuple #[.agg #[.int .i64 who, .slice D ld.length cd, .slice C lc.length cc, .slice M lm.length cm], .int .i64 0]) ∧
    St w0 S0 w' ([LisR 3 1 (.slice D ld.length cd) ld.length (ivs ld), LisR 3 1 (.slice C lc.length cc) lc.length (ivs lc), LisR 3 1 (.slice M lm.length cm) lm.length (ivs lm)] ++ (CpuL p T V now s ++ X))
section
variable {w0 w : World} {S0 : Nat → Prop} {X : List Res} {p : Pl} {T T' : Nat → CTk} {V V' : Nat → Sv} {now id dem : Int} {s s' : QS}
/-- No time is left. -/
theorem cStep_no (H : St w0 S0 w (CpuL p T V now s ++ X)) (who : Int) (n0 : 0 ≤ now) (h : 4611686018427387904 ≤ now + 1) :
    Calls Try.prog 30 #[.pointer (some ⟨p.c, 0, none⟩), .int .i64 who] w fun e w' => e = .returned (.tuple #[.agg #[.int .i64 0, .slice none 0 0, .slice none 0 0, .slice none 0 0], .int .i64 2]) ∧ St w0 S0 w' (CpuL p T V now s ++ X) := by
  obtain ⟨b0, b1, b2, b3⟩ := cpu_box H
  have AD := Lib.hid (fun w => add_no now 1 w n0 (by omega) (by omega))
  have s2 := (H.box 39 #[.int .i64 0, .slice none 0 0, .slice none 0 0, .slice none 0 0]).comm
  obtain ⟨r, hr⟩ : ∃ r, w.heap.size = r := ⟨_, rfl⟩
  rw [hr] at s2
  have hb := (s2.blk 0 rfl).four4
  have q3 := (cpu_box (s2.drop 0 (by simp))).2.2.2
  have S2 := Lib.hid s2
  clear H b0 b1 b2 s2
  go_enter Try.func30, Try.ntmps30
  go_wp2_with fail
  refine (AD.out _).mono ?_
  rintro e w2 ⟨rfl, rfl⟩
  generalize w.alloc (.cells #[.int .i64 0, .slice none 0 0, .slice none 0 0, .slice none 0 0] 39) = wq at *
  have f0 := (S2.out.blk 0 rfl).frozen 0
  have f1 := (S2.out.blk 0 rfl).frozen 1
  have f2 := (S2.out.blk 0 rfl).frozen 2
  have f3 := (S2.out.blk 0 rfl).frozen 3
  have s3 := (((S2.out.set_ 0 rfl 0 (.int .i64 0)).set_ 0 rfl 1 (.slice none 0 0)).set_ 0 rfl 2 (.slice none 0 0)).set_ 0 rfl 3 (.slice none 0 0)
  have S3 := Lib.hid s3
  obtain ⟨h0, h1, h2, h3⟩ := (s3.blk 0 rfl).four4
  obtain ⟨e0, e1, e2, e3⟩ := hb
  have D3 := Lib.hid (s3.drop 0 (by simp))
  clear s3 S2 AD q3 hr
  go_wp2_with fail
  refine bodyPost_ret (v := .tuple #[.agg #[.int .i64 0, .slice none 0 0, .slice none 0 0, .slice none 0 0], .int .i64 2]) ?_ rfl ⟨rfl, D3.out⟩
  clear f0 f1 f2 f3 e0 e1 e2 e3 D3
  generalize (((wq.setCell ⟨r, 0, none⟩ (.int .i64 0)).setCell ⟨r, 1, none⟩ (.slice none 0 0)).setCell ⟨r, 2, none⟩ (.slice none 0 0)).setCell ⟨r, 3, none⟩ (.slice none 0 0) = wz at *
  simp [results, Try.results30, go_sem, h0, h1, h2, h3]
/-- A step of a job. -/
theorem cStep_run (H : St w0 S0 w (CpuL p T V now s ++ X)) (hn : p.n ≤ 100) (n0 : 0 ≤ now) (h1 : now + 1 < 4611686018427387904) {j : Nat} (hj : j < p.n) (ht : (T j).there = true) (r0 : 0 ≤ (T j).ran) (r1 : (T j).ran < 9223372036854775807) {q : Nat} (hs : s.ok q) {f : Int} (hG : GoP s (j : Int) f s')
    {T2 : Nat → CTk} (hT2 : updK T j (runT (T j)) = T2) {s2 : QS} (hs2 : (if overT (T j) = true then s' else s) = s2) {ld lc lm : List Nat} (hld : doneL (T j) j = ld) (hlc : cutL (T j) j = lc) (hlm : misL T2 (now + 1) p.n = lm) :
    Calls Try.prog 30 #[.pointer (some ⟨p.c, 0, none⟩), .int .i64 (j : Int)] w (StepQ w0 S0 X p T2 V (now + 1) s2 (j : Int) ld lc lm) := by
  have AD := Lib.hid (fun w => add_ok now 1 w n0 (by omega) (by omega) (by omega))
  have s3 := (H.box 39 #[.int .i64 0, .slice none 0 0, .slice none 0 0, .slice none 0 0]).comm
  obtain ⟨r, hr⟩ : ∃ r, w.heap.size = r := ⟨_, rfl⟩
  rw [hr] at s3
  have q3 := (cpu_box (s3.drop 0 (by simp))).2.2.2
  have S2 := Lib.hid s3
  have BK := Lib.hid (fun (W : World) (R1 R2 : Res) (n : Int) (T : Nat → CTk) (s : QS) (K : St w0 S0 W ([R1, R2] ++ (CpuL p T V n s ++ X))) => show St w0 S0 W (CpuL p T V n s ++ (X ++ [R1, R2])) from by
    have := K.comm
    rwa [List.append_assoc] at this)
  have RUN := Lib.hid (fun (W : World) (X2 : List Res) (K : St w0 S0 W (CpuL p T V now s ++ X2)) => by
    have h := cRun_c K hj ht r0 r1 hs hG
    rw [hT2, hs2, hld, hlc] at h
    exact h)
  have HLM := Lib.hid hlm
  have j0 : decide ((100 : Int) ≤ (j : Int)) = false := decide_eq_false (by omega)
  have j1 : ((j : Int) == -1) = false := beq_eq_false_iff_ne.2 (by omega)
  have j2 : ((j : Int) != -1) = true := by simp
  clear H s3 hT2 hs2 hld hlc hlm hG hs ht r0 r1
  go_enter Try.func30, Try.ntmps30
  go_wp2_with fail
  refine (AD.out _).mono ?_
  rintro e w2 ⟨rfl, rfl⟩
  generalize w.alloc (.cells #[.int .i64 0, .slice none 0 0, .slice none 0 0, .slice none 0 0] 39) = wq at *
  have s3 := (S2.out.box 39 #[.int .i64 (j : Int), .slice none 0 0, .slice none 0 0, .slice none 0 0]).comm
  obtain ⟨b, hb⟩ : ∃ b, wq.heap.size = b := ⟨_, rfl⟩
  rw [hb] at s3
  have S3 := Lib.hid (show St w0 S0 _ ([BlkR b 39 #[.int .i64 (j : Int), .slice none 0 0, .slice none 0 0, .slice none 0 0], BlkR r 39 #[.int .i64 0, .slice none 0 0, .slice none 0 0, .slice none 0 0]] ++ (CpuL p T V now s ++ X)) from s3)
  clear s3 S2 AD q3 hr
  go_wp2_with fail
  refine (RUN.out _ _ (BK.out _ _ _ _ _ _ S3.out)).mono ?_
  rintro e w2 ⟨D, nd, cd, C, nc, cc, rfl, hnd, hnc, s4⟩
  subst hnd hnc
  have s5 : St w0 S0 w2 ([BlkR b 39 #[.int .i64 (j : Int), .slice none 0 0, .slice none 0 0, .slice none 0 0], BlkR r 39 #[.int .i64 0, .slice none 0 0, .slice none 0 0, .slice none 0 0], LisR 3 1 (.slice D ld.length cd) ld.length (ivs ld), LisR 3 1 (.slice C lc.length cc) lc.length (ivs lc)] ++ (CpuL p T2 V now s2 ++ X)) := by
    have k := s4.comm
    rw [← List.append_assoc (CpuL p T2 V now s2) X, List.append_assoc (CpuL p T2 V now s2 ++ X)] at k
    exact k.comm
  have S5 := Lib.hid s5
  have k1 : w2.cell? ⟨b, 1, none⟩ = some (.slice none 0 0) := (s5.blk 0 rfl).four4.2.1
  have k2 : w2.cell? ⟨b, 2, none⟩ = some (.slice none 0 0) := (s5.blk 0 rfl).four4.2.2.1
  have g1 := (s5.blk 0 rfl).frozen 1
  have g2 := (s5.blk 0 rfl).frozen 2
  have s6 := (s5.set_ 0 rfl 1 (.slice D ld.length cd)).set_ 0 rfl 2 (.slice C lc.length cc)
  have S6 := Lib.hid s6
  clear s4 s5 s6 S3 RUN BK hb
  go_upto_region 9 with (fail)
  generalize (w2.setCell ⟨b, 1, none⟩ (.slice D ld.length cd)).setCell ⟨b, 2, none⟩ (.slice C lc.length cc) = w3 at *
  clear k1 k2 g1 g2 S5
  have m3 : w3.cell? ⟨p.c, 3, none⟩ = some (.int .u64 now) := (S6.out.blk 4 rfl).four4.2.2.2
  have m4 := (S6.out.blk 4 rfl).frozen 3
  have s7 : St w0 S0 (w3.setCell ⟨p.c, 3, none⟩ (.int .u64 (now + 1))) ([BlkR b 39 #[.int .i64 (j : Int), .slice D ld.length cd, .slice C lc.length cc, .slice none 0 0], BlkR r 39 #[.int .i64 0, .slice none 0 0, .slice none 0 0, .slice none 0 0], LisR 3 1 (.slice D ld.length cd) ld.length (ivs ld), LisR 3 1 (.slice C lc.length cc) lc.length (ivs lc)] ++ (CpuL p T2 V (now + 1) s2 ++ X)) := S6.out.set_ 4 rfl 3 (.int .u64 (now + 1))
  have s8 : St w0 S0 (w3.setCell ⟨p.c, 3, none⟩ (.int .u64 (now + 1))) (CpuL p T2 V (now + 1) s2 ++ (X ++ [BlkR b 39 #[.int .i64 (j : Int), .slice D ld.length cd, .slice C lc.length cc, .slice none 0 0], BlkR r 39 #[.int .i64 0, .slice none 0 0, .slice none 0 0, .slice none 0 0], LisR 3 1 (.slice D ld.length cd) ld.length (ivs ld), LisR 3 1 (.slice C lc.length cc) lc.length (ivs lc)])) := by
    have k := s7.comm
    rwa [List.append_assoc] at k
  have MC := Lib.hid (cMissed_c s8 (by omega))
  clear s7 s8 S6
  go_upto_region 10 with (fail)
  generalize w3.setCell ⟨p.c, 3, none⟩ (.int .u64 (now + 1)) = w4 at *
  clear m3 m4
  go_wp2_with fail
  refine MC.out.mono ?_
  rintro e w5 ⟨M, cm, rfl, s9⟩
  rw [HLM.out] at s9 ⊢
  have sa : St w0 S0 w5 ([BlkR b 39 #[.int .i64 (j : Int), .slice D ld.length cd, .slice C lc.length cc, .slice none 0 0], BlkR r 39 #[.int .i64 0, .slice none 0 0, .slice none 0 0, .slice none 0 0], LisR 3 1 (.slice D ld.length cd) ld.length (ivs ld), LisR 3 1 (.slice C lc.length cc) lc.length (ivs lc), LisR 3 1 (.slice M lm.length cm) lm.length (ivs lm)] ++ (CpuL p T2 V (now + 1) s2 ++ X)) := by
    have k := s9
    rw [← List.append_assoc (CpuL p T2 V (now + 1) s2) X, List.append_assoc (CpuL p T2 V (now + 1) s2 ++ X)] at k
    exact k.comm
  have k3 : w5.cell? ⟨b, 3, none⟩ = some (.slice none 0 0) := (sa.blk 0 rfl).four4.2.2.2
  have g3 := (sa.blk 0 rfl).frozen 3
  have sb := sa.set_ 0 rfl 3 (.slice M lm.length cm)
  have SB := Lib.hid sb
  clear s9 sa sb MC
  go_upto_region 11 with (fail)
  generalize w5.setCell ⟨b, 3, none⟩ (.slice M lm.length cm) = w6 at *
  clear k3 g3
  obtain ⟨e0, e1, e2, e3⟩ := (SB.out.blk 0 rfl).four4
  obtain ⟨h0, h1, h2, h3⟩ := (SB.out.blk 1 rfl).four4
  have f0 := (SB.out.blk 1 rfl).frozen 0
  have f1 := (SB.out.blk 1 rfl).frozen 1
  have f2 := (SB.out.blk 1 rfl).frozen 2
  have f3 := (SB.out.blk 1 rfl).frozen 3
  have sc := (((SB.out.set_ 1 rfl 0 (.int .i64 (j : Int))).set_ 1 rfl 1 (.slice D ld.length cd)).set_ 1 rfl 2 (.slice C lc.length cc)).set_ 1 rfl 3 (.slice M lm.length cm)
  obtain ⟨y0, y1, y2, y3⟩ := (sc.blk 1 rfl).four4
  have SD := Lib.hid ((sc.drop 0 (by simp)).drop 0 (by simp))
  clear sc SB
  go_wp2_with fail
  refine bodyPost_ret (v := .tuple #[.agg #[.int .i64 (j : Int), .slice D ld.length cd, .slice C lc.length cc, .slice M lm.length cm], .int .i64 0]) ?_ rfl ⟨D, cd, C, cc, M, cm, rfl, SD.out⟩
  clear f0 f1 f2 f3 e0 e1 e2 e3 h0 h1 h2 h3 SD
  generalize (((w6.setCell ⟨r, 0, none⟩ (.int .i64 (j : Int))).setCell ⟨r, 1, none⟩ (.slice D ld.length cd)).setCell ⟨r, 2, none⟩ (.slice C lc.length cc)).setCell ⟨r, 3, none⟩ (.slice M lm.length cm) = wz at *
  simp [results, Try.results30, go_sem, y0, y1, y2, y3]
end
end Go.Proofs.Ytdnonhhphkmlmaa
