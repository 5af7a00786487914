/- Layer 17: a processor: a tick in which a server runs, or nobody.. -/
import Derived.Test.YtdnonhhphkmlmaaCpuK
namespace Go.Proofs.Ytdnonhhphkmlmaa
open Go.RowKit
set_option linter.unusedVariables false
set_option maxRecDepth 100000
set_option maxHeartbeats 4000000
section
variable {w0 w : World} {S0 : Nat → Prop} {X : List Res} {p : Pl} {T T' : Nat → CTk} {V V' : Nat → Sv} {now id dem : Int} {s s' : QS}
theorem cStep_idle (H : St w0 S0 w (CpuL p T V now s ++ X)) (hn : p.n ≤ 100) (n0 : 0 ≤ now) (h1 : now + 1 < 4611686018427387904) {lm : List Nat} (hlm : misL T (now + 1) p.n = lm) :
    Calls Try.prog 30 #[.pointer (some ⟨p.c, 0, none⟩), .int .i64 (-1)] w (StepQ w0 S0 X p T V (now + 1) s (-1) [] [] lm) := by
  have AD := Lib.hid (fun w => add_ok now 1 w n0 (by omega) (by omega) (by omega))
  have s3 := (H.box 39 #[.int .i64 0, .slice none 0 0, .slice none 0 0, .slice none 0 0]).comm
  obtain ⟨r, hr⟩ : ∃ r, w.heap.size = r := ⟨_, rfl⟩
  rw [hr] at s3
  have q3 := (cpu_box (s3.drop 0 (by simp))).2.2.2
  have S2 := Lib.hid s3
  have HLM := Lib.hid hlm
  clear H s3 hlm
  go_enter Try.func30, Try.ntmps30
  go_wp2_with fail
  refine (AD.out _).mono ?_
  rintro e w2 ⟨rfl, rfl⟩
  generalize w.alloc (.cells #[.int .i64 0, .slice none 0 0, .slice none 0 0, .slice none 0 0] 39) = wq at *
  have s3 := (S2.out.box 39 #[.int .i64 (-1), .slice none 0 0, .slice none 0 0, .slice none 0 0]).comm
  obtain ⟨b, hb⟩ : ∃ b, wq.heap.size = b := ⟨_, rfl⟩
  rw [hb] at s3
  have S3 := Lib.hid (show St w0 S0 _ ([BlkR b 39 #[.int .i64 (-1), .slice none 0 0, .slice none 0 0, .slice none 0 0], BlkR r 39 #[.int .i64 0, .slice none 0 0, .slice none 0 0, .slice none 0 0]] ++ (CpuL p T V now s ++ X)) from s3)
  clear s3 S2 AD q3 hr
  have s5 := ((S3.out.comm.lis_nil 3 1).lis_nil 3 1)
  rw [List.append_assoc, List.append_assoc] at s5
  have S6 := Lib.hid (show St w0 S0 _ ([BlkR b 39 #[.int .i64 (-1), .slice none 0 0, .slice none 0 0, .slice none 0 0], BlkR r 39 #[.int .i64 0, .slice none 0 0, .slice none 0 0, .slice none 0 0], LisR 3 1 (.slice none 0 0) 0 (ivs []), LisR 3 1 (.slice none 0 0) 0 (ivs [])] ++ (CpuL p T V now s ++ X)) from s5.comm)
  clear s5 S3
  go_upto_region 9 with (fail)
  generalize wq.alloc (.cells #[.int .i64 (-1), .slice none 0 0, .slice none 0 0, .slice none 0 0] 39) = w3 at *
  clear hb
  have m3 : w3.cell? ⟨p.c, 3, none⟩ = some (.int .u64 now) := (S6.out.blk 4 rfl).four4.2.2.2
  have m4 := (S6.out.blk 4 rfl).frozen 3
  have s7 : St w0 S0 (w3.setCell ⟨p.c, 3, none⟩ (.int .u64 (now + 1))) ([BlkR b 39 #[.int .i64 (-1), .slice none 0 0, .slice none 0 0, .slice none 0 0], BlkR r 39 #[.int .i64 0, .slice none 0 0, .slice none 0 0, .slice none 0 0], LisR 3 1 (.slice none 0 0) 0 (ivs []), LisR 3 1 (.slice none 0 0) 0 (ivs [])] ++ (CpuL p T V (now + 1) s ++ X)) := S6.out.set_ 4 rfl 3 (.int .u64 (now + 1))
  have s8 : St w0 S0 (w3.setCell ⟨p.c, 3, none⟩ (.int .u64 (now + 1))) (CpuL p T V (now + 1) s ++ (X ++ [BlkR b 39 #[.int .i64 (-1), .slice none 0 0, .slice none 0 0, .slice none 0 0], BlkR r 39 #[.int .i64 0, .slice none 0 0, .slice none 0 0, .slice none 0 0], LisR 3 1 (.slice none 0 0) 0 (ivs []), LisR 3 1 (.slice none 0 0) 0 (ivs [])])) := by
    have k := s7.comm
    rwa [List.append_assoc] at k
  have MC := Lib.hid (cMissed_c s8 (by omega))
  clear s7 s8 S6
  go_upto_region 10 with (fail)
  generalize w3.setCell ⟨p.c, 3, none⟩ (.int .u64 (now + 1)) = w4 at *
  clear m3 m4
  go_wp2_with fail
  refine MC.out.mono ?_
  rintro e w5 ⟨M, cm, rfl, s9⟩
  rw [HLM.out] at s9 ⊢
  have sa : St w0 S0 w5 ([BlkR b 39 #[.int .i64 (-1), .slice none 0 0, .slice none 0 0, .slice none 0 0], BlkR r 39 #[.int .i64 0, .slice none 0 0, .slice none 0 0, .slice none 0 0], LisR 3 1 (.slice none 0 0) 0 (ivs []), LisR 3 1 (.slice none 0 0) 0 (ivs []), LisR 3 1 (.slice M lm.length cm) lm.length (ivs lm)] ++ (CpuL p T V (now + 1) s ++ X)) := by
    have k := s9
    rw [← List.append_assoc (CpuL p T V (now + 1) s) X, List.append_assoc (CpuL p T V (now + 1) s ++ X)] at k
    exact k.comm
  have k3 : w5.cell? ⟨b, 3, none⟩ = some (.slice none 0 0) := (sa.blk 0 rfl).four4.2.2.2
  have g3 := (sa.blk 0 rfl).frozen 3
  have sb := sa.set_ 0 rfl 3 (.slice M lm.length cm)
  have SB := Lib.hid sb
  clear s9 sa sb MC
  go_upto_region 11 with (fail)
  generalize w5.setCell ⟨b, 3, none⟩ (.slice M lm.length cm) = w6 at *
  clear k3 g3
  obtain ⟨e0, e1, e2, e3⟩ := (SB.out.blk 0 rfl).four4
  obtain ⟨h0, h1, h2, h3⟩ := (SB.out.blk 1 rfl).four4
  have f0 := (SB.out.blk 1 rfl).frozen 0
  have f1 := (SB.out.blk 1 rfl).frozen 1
  have f2 := (SB.out.blk 1 rfl).frozen 2
  have f3 := (SB.out.blk 1 rfl).frozen 3
  have sc := (((SB.out.set_ 1 rfl 0 (.int .i64 (-1))).set_ 1 rfl 1 (.slice none 0 0)).set_ 1 rfl 2 (.slice none 0 0)).set_ 1 rfl 3 (.slice M lm.length cm)
  obtain ⟨y0, y1, y2, y3⟩ := (sc.blk 1 rfl).four4
  have SD := Lib.hid ((sc.drop 0 (by simp)).drop 0 (by simp))
  clear sc SB
  go_wp2_with fail
  refine bodyPost_ret (v := .tuple #[.agg #[.int .i64 (-1), .slice none 0 0, .slice none 0 0, .slice M lm.length cm], .int .i64 0]) ?_ rfl ⟨none, 0, none, 0, M, cm, rfl, SD.out⟩
  clear f0 f1 f2 f3 e0 e1 e2 e3 h0 h1 h2 h3 SD
  generalize (((w6.setCell ⟨r, 0, none⟩ (.int .i64 (-1))).setCell ⟨r, 1, none⟩ (.slice none 0 0)).setCell ⟨r, 2, none⟩ (.slice none 0 0)).setCell ⟨r, 3, none⟩ (.slice M lm.length cm) = wz at *
  simp [results, Try.results30, go_sem, y0, y1, y2, y3]
theorem cStep_serve (H : St w0 S0 w (CpuL p T V now s ++ X)) (hn : p.n ≤ 100) (n0 : 0 ≤ now) (h1 : now + 1 < 4611686018427387904) {k : Nat} (hk : k < p.m) (hm : p.m ≤ 100) (hv : SvOK now (V k)) (hw : 0 < (V k).work) {V2 : Nat → Sv} (hV2 : updK V k (serveS (V k) now) = V2) {lm : List Nat} (hlm : misL T (now + 1) p.n = lm) :
    Calls Try.prog 30 #[.pointer (some ⟨p.c, 0, none⟩), .int .i64 (100 + (k : Int))] w (StepQ w0 S0 X p T V2 (now + 1) s (100 + (k : Int)) [] [] lm) := by
  have AD := Lib.hid (fun w => add_ok now 1 w n0 (by omega) (by omega) (by omega))
  have s3 := (H.box 39 #[.int .i64 0, .slice none 0 0, .slice none 0 0, .slice none 0 0]).comm
  obtain ⟨r, hr⟩ : ∃ r, w.heap.size = r := ⟨_, rfl⟩
  rw [hr] at s3
  have q3 := (cpu_box (s3.drop 0 (by simp))).2.2.2
  have S2 := Lib.hid s3
  have HLM := Lib.hid hlm
  have SRV := Lib.hid (fun (W : World) (X2 : List Res) (K : St w0 S0 W (CpuL p T V now s ++ X2)) => by
    have h := cServe_c K hk hv hw n0 (by omega)
    rw [hV2] at h
    exact h)
  have j0 : decide ((100 : Int) ≤ 100 + (k : Int)) = true := decide_eq_true (by omega)
  have j1 : IntKind.i64.wrap (100 + (k : Int) - 100) = (k : Int) := by rw [show 100 + (k : Int) - 100 = (k : Int) by omega]; exact IntWalk.i64_in _ ⟨by omega, by omega⟩
  have j3 : 100 + (k : Int) - 100 = (k : Int) := by omega
  clear H s3 hlm hV2 hv hw
  go_enter Try.func30, Try.ntmps30
  go_wp2_with fail
  refine (AD.out _).mono ?_
  rintro e w2 ⟨rfl, rfl⟩
  generalize w.alloc (.cells #[.int .i64 0, .slice none 0 0, .slice none 0 0, .slice none 0 0] 39) = wq at *
  have s3 := (S2.out.box 39 #[.int .i64 (100 + (k : Int)), .slice none 0 0, .slice none 0 0, .slice none 0 0]).comm
  obtain ⟨b, hb⟩ : ∃ b, wq.heap.size = b := ⟨_, rfl⟩
  rw [hb] at s3
  have S3 := Lib.hid (show St w0 S0 _ ([BlkR b 39 #[.int .i64 (100 + (k : Int)), .slice none 0 0, .slice none 0 0, .slice none 0 0], BlkR r 39 #[.int .i64 0, .slice none 0 0, .slice none 0 0, .slice none 0 0]] ++ (CpuL p T V now s ++ X)) from s3)
  clear s3 S2 AD q3 hr
  go_wp2_with fail
  refine (SRV.out _ (X ++ [BlkR b 39 #[.int .i64 (100 + (k : Int)), .slice none 0 0, .slice none 0 0, .slice none 0 0], BlkR r 39 #[.int .i64 0, .slice none 0 0, .slice none 0 0, .slice none 0 0]]) (by have k := S3.out.comm; rwa [List.append_assoc] at k)).mono ?_
  rintro e w2 ⟨rfl, s4⟩
  rw [← List.append_assoc] at s4
  have s5 := ((s4.lis_nil 3 1).lis_nil 3 1)
  rw [List.append_assoc, List.append_assoc] at s5
  have S6 := Lib.hid (show St w0 S0 _ ([BlkR b 39 #[.int .i64 (100 + (k : Int)), .slice none 0 0, .slice none 0 0, .slice none 0 0], BlkR r 39 #[.int .i64 0, .slice none 0 0, .slice none 0 0, .slice none 0 0], LisR 3 1 (.slice none 0 0) 0 (ivs []), LisR 3 1 (.slice none 0 0) 0 (ivs [])] ++ (CpuL p T V2 now s ++ X)) from s5.comm)
  clear s4 s5 S3 SRV hb
  go_upto_region 9 with (fail)
  have m3 : w2.cell? ⟨p.c, 3, none⟩ = some (.int .u64 now) := (S6.out.blk 4 rfl).four4.2.2.2
  have m4 := (S6.out.blk 4 rfl).frozen 3
  have s7 : St w0 S0 (w2.setCell ⟨p.c, 3, none⟩ (.int .u64 (now + 1))) ([BlkR b 39 #[.int .i64 (100 + (k : Int)), .slice none 0 0, .slice none 0 0, .slice none 0 0], BlkR r 39 #[.int .i64 0, .slice none 0 0, .slice none 0 0, .slice none 0 0], LisR 3 1 (.slice none 0 0) 0 (ivs []), LisR 3 1 (.slice none 0 0) 0 (ivs [])] ++ (CpuL p T V2 (now + 1) s ++ X)) := S6.out.set_ 4 rfl 3 (.int .u64 (now + 1))
  have s8 : St w0 S0 (w2.setCell ⟨p.c, 3, none⟩ (.int .u64 (now + 1))) (CpuL p T V2 (now + 1) s ++ (X ++ [BlkR b 39 #[.int .i64 (100 + (k : Int)), .slice none 0 0, .slice none 0 0, .slice none 0 0], BlkR r 39 #[.int .i64 0, .slice none 0 0, .slice none 0 0, .slice none 0 0], LisR 3 1 (.slice none 0 0) 0 (ivs []), LisR 3 1 (.slice none 0 0) 0 (ivs [])])) := by
    have k := s7.comm
    rwa [List.append_assoc] at k
  have MC := Lib.hid (cMissed_c s8 (by omega))
  clear s7 s8 S6
  go_upto_region 10 with (fail)
  generalize w2.setCell ⟨p.c, 3, none⟩ (.int .u64 (now + 1)) = w4 at *
  clear m3 m4
  go_wp2_with fail
  refine MC.out.mono ?_
  rintro e w5 ⟨M, cm, rfl, s9⟩
  rw [HLM.out] at s9 ⊢
  have sa : St w0 S0 w5 ([BlkR b 39 #[.int .i64 (100 + (k : Int)), .slice none 0 0, .slice none 0 0, .slice none 0 0], BlkR r 39 #[.int .i64 0, .slice none 0 0, .slice none 0 0, .slice none 0 0], LisR 3 1 (.slice none 0 0) 0 (ivs []), LisR 3 1 (.slice none 0 0) 0 (ivs []), LisR 3 1 (.slice M lm.length cm) lm.length (ivs lm)] ++ (CpuL p T V2 (now + 1) s ++ X)) := by
    have k := s9
    rw [← List.append_assoc (CpuL p T V2 (now + 1) s) X, List.append_assoc (CpuL p T V2 (now + 1) s ++ X)] at k
    exact k.comm
  have k3 : w5.cell? ⟨b, 3, none⟩ = some (.slice none 0 0) := (sa.blk 0 rfl).four4.2.2.2
  have g3 := (sa.blk 0 rfl).frozen 3
  have sb := sa.set_ 0 rfl 3 (.slice M lm.length cm)
  have SB := Lib.hid sb
  clear s9 sa sb MC
  go_upto_region 11 with (fail)
  generalize w5.setCell ⟨b, 3, none⟩ (.slice M lm.length cm) = w6 at *
  clear k3 g3
  obtain ⟨e0, e1, e2, e3⟩ := (SB.out.blk 0 rfl).four4
  obtain ⟨h0, h1, h2, h3⟩ := (SB.out.blk 1 rfl).four4
  have f0 := (SB.out.blk 1 rfl).frozen 0
  have f1 := (SB.out.blk 1 rfl).frozen 1
  have f2 := (SB.out.blk 1 rfl).frozen 2
  have f3 := (SB.out.blk 1 rfl).frozen 3
  have sc := (((SB.out.set_ 1 rfl 0 (.int .i64 (100 + (k : Int)))).set_ 1 rfl 1 (.slice none 0 0)).set_ 1 rfl 2 (.slice none 0 0)).set_ 1 rfl 3 (.slice M lm.length cm)
  obtain ⟨y0, y1, y2, y3⟩ := (sc.blk 1 rfl).four4
  have SD := Lib.hid ((sc.drop 0 (by simp)).drop 0 (by simp))
  clear sc SB
  go_wp2_with fail
  refine bodyPost_ret (v := .tuple #[.agg #[.int .i64 (100 + (k : Int)), .slice none 0 0, .slice none 0 0, .slice M lm.length cm], .int .i64 0]) ?_ rfl ⟨none, 0, none, 0, M, cm, rfl, SD.out⟩
  clear f0 f1 f2 f3 e0 e1 e2 e3 h0 h1 h2 h3 SD
  generalize (((w6.setCell ⟨r, 0, none⟩ (.int .i64 (100 + (k : Int)))).setCell ⟨r, 1, none⟩ (.slice none 0 0)).setCell ⟨r, 2, none⟩ (.slice none 0 0)).setCell ⟨r, 3, none⟩ (.slice M lm.length cm) = wz at *
  simp [results, Try.results30, go_sem, y0, y1, y2, y3]
end
end Go.Proofs.Ytdnonhhphkmlmaa
