/- Layer 17: the answers that the document fixes: awake. -/
import Derived.Test.YtdnonhhphkmlmaaCpuY
namespace Go.Proofs.Ytdnonhhphkmlmaa
open Go.RowKit
set_option linter.unusedVariables false
set_option maxRecDepth 100000
set_option maxHeartbeats 4000000
def awW : Nat → Wk := fun _ => ⟨5, 1, 20, 10⟩
def awS : Nat → Ld := fun _ => ⟨2, 10⟩
theorem aw_tok : TOK 1 awW := ⟨by omega, fun j _ => show Wk.ok ⟨5, 1, 20, 10⟩ by decide⟩
theorem aw_lok : LOK 1 awS := ⟨by omega, fun j _ => show Ld.ok ⟨2, 10⟩ by decide⟩
theorem awake_any (w : World) : Calls Try.prog 9 #[] w fun e w' => e = .returned (.bool true) ∧ Below w.heap.size w w' := by
  have b0 := ((St.begin w).box 52 #[.int .i64 5, .int .u64 1, .int .u64 20, .int .u64 10]).box 49 #[.int .i64 2, .int .u64 10]
  obtain ⟨W, hW⟩ : ∃ W, (w.alloc (.cells #[.int .i64 5, .int .u64 1, .int .u64 20, .int .u64 10] 52)).alloc (.cells #[.int .i64 2, .int .u64 10] 49) = W := ⟨_, rfl⟩
  rw [hW] at b0
  rw [show (w.alloc (.cells #[.int .i64 5, .int .u64 1, .int .u64 20, .int .u64 10] 52)).heap.size = w.heap.size + 1 by simp] at b0
  have rd : Ts W (some ⟨w.heap.size, 0, none⟩) 1 awW := blk_ts1 (a := ⟨5, 1, 20, 10⟩) (b0.blk 0 rfl) rfl
  have rdS : Ls W (some ⟨w.heap.size + 1, 0, none⟩) 1 awS := blk_ls1 (a := ⟨2, 10⟩) (b0.blk 1 rfl) rfl
  have NC := Lib.hid (cNew_c (ca := 1) (ce := 1) rd rdS aw_tok aw_lok aw_lok.typed)
  have B0 := Lib.hid ((b0.take 0))
  clear b0 rd rdS
  go_enter Try.func9, Try.ntmps9
  go_wp2_with fail
  refine NC.out.mono ?_
  rintro e w1 ⟨p, V, rfl, hn, hm, hV, s1⟩
  have K0 : St w None w1 (CpuL p (fun j => tk0 (awW j)) V 0 QS.new ++ []) := by
    have h := B0.out.join s1
    rw [List.take_zero, List.nil_append] at h
    exact h
  have hV0 := hV 0 (by omega)
  obtain ⟨⟨v1, v2⟩, v3, v4, v5⟩ := hV0
  have G0 : Gh p.n p.m awW awS 0 (fun j => tk0 (awW j)) V QS.new (fun _ => -1) (fun _ _ => false) (fun _ _ => false) := by
    rw [hn, hm]; exact Gh.anew aw_tok aw_lok hV
  have HN := Lib.hid hn
  have HM := Lib.hid hm
  clear s1 B0 NC hV hn hm
  have RC := Lib.hid (gRelease (id := 0) (dem := 9) G0 K0 (by omega) (by omega))
  clear K0 G0
  go_wp2_with fail
  refine RC.out.mono ?_
  rintro e w2 ⟨f, T1, s1, r1, hR, rfl, K1⟩
  obtain rfl : f = 0 := by rw [hR.fe, HN.out]; rfl
  obtain ⟨-, -, -, -, -, hT1, hs1, -⟩ := hR.yes rfl
  have G1 := hR.G
  have HT1 := Lib.hid hT1
  have HS1 := Lib.hid hs1
  clear hT1 hs1
  clear RC hR
  have WC := Lib.hid (gWake (id := 0) (dem := 5) G1 K1 (by omega))
  clear G1 K1
  go_wp2_with fail
  refine WC.out.mono ?_
  rintro e w3 ⟨G2, rfl, K2⟩
  have hwA : wakeA p.m 0 = 0 := by rw [HM.out]; rfl
  rw [hwA]
  obtain ⟨V2, hV2⟩ : ∃ V2, wakeV p.m V 0 5 = V2 := ⟨_, rfl⟩
  rw [hV2] at G2 K2
  have u : (V2 0).work = 5 ∧ (V2 0).B = 2 ∧ (V2 0).P = 10 ∧ (V2 0).xs = [] := by
    rw [← hV2, HM.out]
    unfold wakeV
    rw [if_pos (by omega)]
    show (updK V 0 _ 0).work = 5 ∧ (updK V 0 _ 0).B = 2 ∧ (updK V 0 _ 0).P = 10 ∧ (updK V 0 _ 0).xs = []
    rw [updK_self]
    refine ⟨?_, v1, v2, v4⟩
    show (V 0).work + min 5 (1048576 - (V 0).work) = 5
    rw [v3]; rfl
  obtain ⟨u1, u2, u3, u4⟩ := u
  have TC := Lib.hid (gTick G2 K2 (by omega))
  clear WC G2 K2 hwA hV2 v1 v2 v3 v4 v5
  go_wp2_with fail
  refine TC.out.mono ?_
  rintro e w4 ⟨who, ld, lc, T3, V3, s3, D, cd, C, cc, M, cm, nd, nc, nm, hP, G3, -, -, -, rfl, K3⟩
  obtain ⟨rfl, -, -, rfl, rfl, p1, p2, p3, p4⟩ := tick_serve hP (by rw [HM.out]; omega) ⟨by omega, by rw [u4, u2]; decide⟩
  rw [u1] at p1
  rw [u2] at p2
  rw [u3] at p3
  rw [u4, u3] at p4
  clear TC hP u1 u2 u3 u4
  have K3' := K3.box 39 #[.int .i64 100, .slice D nd cd, .slice C nc cc, .slice M nm cm]
  obtain ⟨g3, hg3⟩ : ∃ g, w4.heap.size = g := ⟨_, rfl⟩
  rw [hg3, List.append_assoc] at K3'
  have TC := Lib.hid (gTick G3 K3' (by omega))
  clear G3 K3 K3'
  go_wp2_with fail
  refine TC.out.mono ?_
  rintro e w5 ⟨who, ld, lc, T4, V4, s4, D4, cd4, C4, cc4, M4, cm4, nd4, nc4, nm4, hP, G4, -, -, -, rfl, K4⟩
  obtain ⟨rfl, -, -, rfl, rfl, u1, u2, u3, u4⟩ := tick_serve hP (by rw [HM.out]; omega) ⟨by omega, by rw [p4, p2]; decide⟩
  rw [p1] at u1
  rw [p2] at u2
  rw [p3] at u3
  rw [p4, p3] at u4
  clear TC hP p1 p2 p3 p4
  have K4' := K4.box 39 #[.int .i64 100, .slice D4 nd4 cd4, .slice C4 nc4 cc4, .slice M4 nm4 cm4]
  obtain ⟨g4, hg4⟩ : ∃ g, w5.heap.size = g := ⟨_, rfl⟩
  rw [hg4, List.append_assoc] at K4'
  have TC := Lib.hid (gTick G4 K4' (by omega))
  have hth : (T4 0).there = true := by rw [HT1.out]; rfl
  have h9 : (T4 0).ran = 0 ∧ (T4 0).dem = 9 ∧ (T4 0).cost = 1 ∧ (T4 0).per = 20 ∧ (T4 0).began = true ∧ (T4 0).rel = 0 := by rw [HT1.out]; exact ⟨rfl, rfl, rfl, rfl, rfl, rfl⟩
  obtain ⟨t1, t2, t3, t4, t5, t6⟩ := h9
  have G4' := G4
  have HT := Lib.hid (And.intro hth (And.intro t1 (And.intro t2 (And.intro t3 (And.intro t4 (And.intro t5 t6))))))
  have HU := Lib.hid (And.intro u1 (And.intro u2 (And.intro u3 u4)))
  clear G4 K4 K4' hth t1 t2 t3 t4 t5 t6 u1 u2 u3 u4
  go_wp2_with fail
  refine TC.out.mono ?_
  rintro e w6 ⟨who, ld, lc, T5, V5, s5, D5, cd5, C5, cc5, M5, cm5, nd5, nc5, nm5, hP, G5, -, hnc, -, rfl, K5⟩
  obtain ⟨hth, t1, t2, t3, t4, t5, t6⟩ := HT.out
  obtain ⟨u1, u2, u3, u4⟩ := HU.out
  have hn := HN.out
  have hm := HM.out
  obtain ⟨p1, rfl, hT5, rfl, rfl⟩ := tick_one (by rw [hn] at G4'; exact G4') (by rw [hn] at hP; exact hP) (fun j hj hc => by
    obtain rfl : j = 0 := by omega
    have := hc.2
    rw [u4, u2] at this
    revert this; decide) hth
  have hcl : cutL (T4 0) 0 = [0] := by unfold cutL; rw [t1, t2, t3]; rfl
  have hw5 : workA p.m V5 0 = 3 := by
    rw [hm]
    show (V5 0).work = 3
    rw [p1]
    rcases seenV_cases V4 ((0 + 1 + 1 : Nat) : Int) p.m 0 with e | e <;> rw [e]
    · show (V4 0).work = 3; rw [u1]; rfl
    · rw [u1]; rfl
  have hrl : relA p.n T5 ((0 + 1 + 1 + 1 : Nat) : Int) 0 1 = 11 := by
    rw [hn, hT5]
    unfold relA
    show (if (0 : Int) < 0 ∨ _ ∨ _ then _ else if (updK T4 0 (runT (T4 0)) 0).there = true then _ else if (updK T4 0 (runT (T4 0)) 0).began = true ∧ _ - (updK T4 0 (runT (T4 0)) 0).rel < (updK T4 0 (runT (T4 0)) 0).per then _ else _) = 11
    rw [updK_self, if_neg (by omega)]
    have e1 : (runT (T4 0)).there = false := by unfold runT overT; dsimp only; rw [t1, t3]; simp
    rw [e1, if_neg (by decide), if_pos ⟨t5, by show _ - (T4 0).rel < (T4 0).per; rw [t6, t4]; decide⟩]
  obtain rfl : nc5 = 1 := by rw [← hnc, hcl]; rfl
  clear hn hm hnc TC hP p1 u1 u2 u3 u4 t1 t2 t3 t4 t5 t6 G4' hT5 hth hcl
  have K5' := K5.box 39 #[.int .i64 0, .slice D5 nd5 cd5, .slice C5 1 cc5, .slice M5 nm5 cm5]
  obtain ⟨g5, hg5⟩ : ∃ g, w6.heap.size = g := ⟨_, rfl⟩
  rw [hg5, List.append_assoc] at K5'
  have K5'' := K5'.comm
  obtain ⟨a0, a1, a2, a3⟩ := (K5''.blk 0 rfl).four4
  obtain ⟨b0, b1, b2, b3⟩ := (K5''.blk 1 rfl).four4
  obtain ⟨c0, c1, c2, c3⟩ := (K5''.blk 2 rfl).four4
  have NW := Lib.hid (cNow_c K5')
  have WK := Lib.hid (cWork_c (id := 0) K5')
  have RL := Lib.hid (gRelease (id := 0) (dem := 1) G5 K5' (by omega) (by omega))
  rw [hw5] at WK
  have HRL := Lib.hid hrl
  clear K5 K5' K5'' G5 hw5 hrl
  go_wp2_with fail
  refine NW.out.mono ?_
  rintro e w7 ⟨rfl, rfl⟩
  go_wp2_with fail
  refine WK.out.mono ?_
  rintro e w7 ⟨rfl, rfl⟩
  go_wp2_with fail
  refine RL.out.mono ?_
  rintro e w8 ⟨f, T8, s8, r8, hR, rfl, K8⟩
  obtain rfl : f = 11 := by rw [hR.fe]; exact HRL.out
  have BB := K8.below
  clear hR K8
  go_wp2_with fail
  go_ret
  exact ⟨rfl, BB⟩
end Go.Proofs.Ytdnonhhphkmlmaa
