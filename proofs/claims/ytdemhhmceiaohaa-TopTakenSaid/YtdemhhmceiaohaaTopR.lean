/- Through the layers: a server runs ahead of a task. -/
import Derived.Test.YtdemhhmceiaohaaCpuY
namespace Go.Proofs.Ytdemhhmceiaohaa
open Go.RowKit
set_option linter.unusedVariables false
set_option maxRecDepth 100000
set_option maxHeartbeats 4000000
def trW : Nat → Wk := fun _ => ⟨5, 1, 20, 10⟩
def trS : Nat → Ld := fun _ => ⟨1, 10⟩
theorem tr_tok : TOK 1 trW := ⟨by omega, fun j _ => show Wk.ok ⟨5, 1, 20, 10⟩ by decide⟩
theorem tr_lok : LOK 1 trS := ⟨by omega, fun j _ => show Ld.ok ⟨1, 10⟩ by decide⟩
theorem runs_any (w : World) : Calls Try.prog 5 #[] w fun e w' => e = .returned (.bool true) ∧ Below w.heap.size w w' := by
  have b0 := ((St.begin w).box 24 #[.int .i64 5, .int .u64 1, .int .u64 20, .int .u64 10]).box 47 #[.int .i64 1, .int .u64 10]
  obtain ⟨W, hW⟩ : ∃ W, (w.alloc (.cells #[.int .i64 5, .int .u64 1, .int .u64 20, .int .u64 10] 24)).alloc (.cells #[.int .i64 1, .int .u64 10] 47) = W := ⟨_, rfl⟩
  rw [hW] at b0
  rw [show (w.alloc (.cells #[.int .i64 5, .int .u64 1, .int .u64 20, .int .u64 10] 24)).heap.size = w.heap.size + 1 by simp] at b0
  have rd : Ts W (some ⟨w.heap.size, 0, none⟩) 1 trW := blk_ts1 (a := ⟨5, 1, 20, 10⟩) (b0.blk 0 rfl) rfl
  have rdS : Ls W (some ⟨w.heap.size + 1, 0, none⟩) 1 trS := blk_ls1 (a := ⟨1, 10⟩) (b0.blk 1 rfl) rfl
  have NC := Lib.hid (cNew_c (ca := 1) (ce := 1) rd rdS tr_tok tr_lok tr_lok.typed)
  have B0 := Lib.hid ((b0.take 0))
  clear b0 rd rdS
  go_enter Try.func5, Try.ntmps5
  go_wp2_with fail
  refine NC.out.mono ?_
  rintro e w1 ⟨p, V, rfl, hn, hm, hV, s1⟩
  have K0 : St w None w1 (CpuL p (fun j => tk0 (trW j)) V 0 QS.new ++ []) := by
    have h := B0.out.join s1
    rw [List.take_zero, List.nil_append] at h
    exact h
  have hV0 := hV 0 (by omega)
  obtain ⟨⟨v1, v2⟩, v3, v4, v5⟩ := hV0
  have G0 : Gh p.n p.m trW trS 0 (fun j => tk0 (trW j)) V QS.new (fun _ => -1) (fun _ _ => false) (fun _ _ => false) := by
    rw [hn, hm]; exact Gh.anew tr_tok tr_lok hV
  have HN := Lib.hid hn
  have HM := Lib.hid hm
  clear s1 B0 NC hV hn hm
  have RC := Lib.hid (gRelease (id := 0) (dem := 1) G0 K0 (by omega) (by omega))
  clear K0 G0
  go_wp2_with fail
  refine RC.out.mono ?_
  rintro e w2 ⟨f, T1, s1, r1, hR, rfl, K1⟩
  obtain rfl : f = 0 := by rw [hR.fe, HN.out]; rfl
  obtain ⟨-, -, -, -, -, hT1, hs1, -⟩ := hR.yes rfl
  have G1 := hR.G
  have HT1 := Lib.hid hT1
  have HS1 := Lib.hid hs1
  clear hT1 hs1
  clear RC hR
  have WC := Lib.hid (gWake (id := 0) (dem := 5) G1 K1 (by omega))
  clear G1 K1
  go_wp2_with fail
  refine WC.out.mono ?_
  rintro e w3 ⟨G2, rfl, K2⟩
  have hwA : wakeA p.m 0 = 0 := by rw [HM.out]; rfl
  rw [hwA]
  obtain ⟨V2, hV2⟩ : ∃ V2, wakeV p.m V 0 5 = V2 := ⟨_, rfl⟩
  rw [hV2] at G2 K2
  have u : (V2 0).work = 5 ∧ (V2 0).B = 1 ∧ (V2 0).P = 10 ∧ (V2 0).xs = [] := by
    rw [← hV2, HM.out]
    unfold wakeV
    rw [if_pos (by omega)]
    show (updK V 0 _ 0).work = 5 ∧ (updK V 0 _ 0).B = 1 ∧ (updK V 0 _ 0).P = 10 ∧ (updK V 0 _ 0).xs = []
    rw [updK_self]
    refine ⟨?_, v1, v2, v4⟩
    show (V 0).work + min 5 (1048576 - (V 0).work) = 5
    rw [v3]; rfl
  obtain ⟨u1, u2, u3, u4⟩ := u
  have TC := Lib.hid (gTick G2 K2 (by omega))
  clear WC G2 K2 hwA hV2 v1 v2 v3 v4 v5
  go_wp2_with fail
  refine TC.out.mono ?_
  rintro e w4 ⟨who, ld, lc, T3, V3, s3, D, cd, C, cc, M, cm, nd, nc, nm, hP, G3, -, -, -, rfl, K3⟩
  obtain ⟨rfl, -, -, rfl, rfl, p1, p2, p3, p4⟩ := tick_serve hP (by rw [HM.out]; omega) ⟨by omega, by rw [u4, u2]; decide⟩
  rw [u1] at p1
  rw [u2] at p2
  rw [u3] at p3
  rw [u4, u3] at p4
  clear TC hP u1 u2 u3 u4
  have K3' := K3.box 41 #[.int .i64 100, .slice D nd cd, .slice C nc cc, .slice M nm cm]
  obtain ⟨g3, hg3⟩ : ∃ g, w4.heap.size = g := ⟨_, rfl⟩
  rw [hg3, List.append_assoc] at K3'
  have TC := Lib.hid (gTick G3 K3' (by omega))
  have hth : (T3 0).there = true := by rw [HT1.out]; rfl
  have h9 : (T3 0).ran = 0 ∧ (T3 0).dem = 1 := by rw [HT1.out]; exact ⟨rfl, rfl⟩
  have HT := Lib.hid (And.intro hth h9)
  have HU := Lib.hid (And.intro p2 p4)
  have G3' := G3
  clear G3 K3 K3' hth h9 p1 p2 p3 p4
  go_wp2_with fail
  refine TC.out.mono ?_
  rintro e w6 ⟨who, ld, lc, T5, V5, s5, D5, cd5, C5, cc5, M5, cm5, nd5, nc5, nm5, hP, G5, hnd, -, -, rfl, K5⟩
  obtain ⟨hth, t1, t2⟩ := HT.out
  obtain ⟨p2, p4⟩ := HU.out
  have hn := HN.out
  have hm := HM.out
  obtain ⟨-, rfl, -, rfl, -⟩ := tick_one (by rw [hn] at G3'; exact G3') (by rw [hn] at hP; exact hP) (fun j hj hc => by
    obtain rfl : j = 0 := by omega
    have := hc.2
    rw [p4, p2] at this
    revert this; decide) hth
  have hdl : doneL (T3 0) 0 = [0] := by unfold doneL; rw [t1, t2]; rfl
  obtain rfl : nd5 = 1 := by rw [← hnd, hdl]; rfl
  clear hn hm hnd TC hP p2 p4 t1 t2 G3' hth hdl
  have K5' := K5.box 41 #[.int .i64 0, .slice D5 1 cd5, .slice C5 nc5 cc5, .slice M5 nm5 cm5]
  obtain ⟨g5, hg5⟩ : ∃ g, w6.heap.size = g := ⟨_, rfl⟩
  rw [hg5, List.append_assoc] at K5'
  have K5'' := K5'.comm
  obtain ⟨a0, a1, a2, a3⟩ := (K5''.blk 0 rfl).four4
  obtain ⟨c0, c1, c2, c3⟩ := (K5''.blk 1 rfl).four4
  have BB := K5'.below
  clear K5 K5' K5'' G5
  go_wp2_with fail
  go_ret
  exact ⟨rfl, BB⟩
end Go.Proofs.Ytdemhhmceiaohaa
