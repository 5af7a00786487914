/- Layer 6: the document's own bus is made. -/
import Derived.Test.YtabocojmobbpaaaBusU
namespace Go.Proofs.Ytabocojmobbpaaa
open Go.RowKit
set_option linter.unusedVariables false
set_option maxRecDepth 100000
set_option maxHeartbeats 800000
theorem Try.infoRM : (Try.prog.info? 71).map (fun i => (i.zero, i.size, i.bytes)) = some (some (.pointer none), 1, 8) := by kernel_rfl
theorem mcs_snoc (rp : Nat → Nat) (k x : Nat) : mcs (upd rp k x) (k + 1) = mcs rp k ++ [.pointer (some ⟨x, 0, none⟩)] := by
  unfold mcs
  rw [List.range_succ, List.map_append]
  congr 1
  · exact List.map_congr_left fun i hi => by
      have : i < k := by simpa using hi
      simp [upd, show ¬ i = k by omega]
  · simp [upd]
section
variable {w0 w w' : World} {S0 : Nat → Prop} {L : List Res} {C : BC} {A : Option Addr} {cap : Nat} {V : Nat → Nat → Value}
abbrev NL (C : BC) (A : Option Addr) (cap r sb : Nat) (rp : Nat → Nat) (Am : Option Addr) (cm k : Nat) : List Res :=
  [BlkR r 48 #[.slice A C.n cap, .int .u64 C.ph, .slice Am k cm, .slice (some ⟨sb, 0, none⟩) C.n C.n, .slice none 0 0], LisR 71 1 (.slice Am k cm) k (mcs rp k),
    ArrR sb 3 C.n (fun i => .int .i64 0), LisR 84 2 (.slice none 0 0) 0 []] ++ (List.range k).map (fun i => MxE (rp i) (C.B i) (C.P i) C.ph [] C.ph)
theorem RNew_o (H : St w0 S0 w L) (hC : C.OK) (rd : RdM w A C.n 4 V) (hV : MV C V) :
    Calls Try.prog 14 #[.slice A C.n cap, .int .u64 C.ph] w fun e w' => ∃ r sb rp, e = .returned (.pointer (some ⟨r, 0, none⟩)) ∧ St w0 S0 w' (L ++ [RBusR C A cap r sb rp 0 (bs0 C.ph)]) := by
  have h1 := hC.n1
  have h16 := hC.n16
  obtain ⟨iI, hiI, hzI, hsI, hbI⟩ := info_parts Try.infoI
  obtain ⟨iM, hiM, hzM, hsM, hbM⟩ := info_parts Try.infoRM
  have mI := fun W => run_make_rowN (P := Try.prog) 38 3 iI (.int .i64 0) Try.underlying38 hiI hzI rfl hsI .i64 .i64 C.n (by rw [hbI]; omega) (by omega) W
  have HH := Lib.hid H
  have HSH := Lib.hid hC.share
  have HPH := Lib.hid hC.ph
  clear H hiI hzI hsI hbI
  have s1 : St w None ((w.alloc (.cells (madeCells #[.int .i64 0] C.n) 3)).alloc (.cells #[.slice A C.n cap, .int .u64 C.ph, .slice none 0 0, .slice (some ⟨w.heap.size, 0, none⟩) C.n C.n, .slice none 0 0] 48)) (NL C A cap (w.heap.size + 1) w.heap.size (fun _ => 0) none 0 0) := by
    have x1 := (St.begin w).box_arr 3 (madeCells #[.int .i64 0] C.n) C.n (fun _ => .int .i64 0) (by simp [madeCells]) (fun i hi => by simp [madeCells, hi, Nat.mod_one])
    have x2 := x1.front 48 #[.slice A C.n cap, .int .u64 C.ph, .slice none 0 0, .slice (some ⟨w.heap.size, 0, none⟩) C.n C.n, .slice none 0 0]
    have x3 := ((x2.lis_nil 71 1).swap12).lis_nil 84 2
    simpa [NL, mcs] using x3
  have S1 := Lib.hid s1
  clear s1
  go_enter Try.func14, Try.ntmps14
  go_wp2_with fail
  have s1 := S1.out
  clear S1 mI
  generalize w.heap.size = g0 at *
  go_loopw [6] (fun i wr => ∃ (k : Nat) (rp : Nat → Nat) (Am : Option Addr) (cm : Nat), k ≤ C.n ∧ i = .int .i64 k ∧ St w None wr (NL C A cap (g0 + 1) g0 rp Am cm k)) (fun i _ => C.n - (intOf i).toNat)
  case atStart => exact ⟨0, fun _ => 0, none, 0, by omega, rfl, s1⟩
  case round =>
    clear s1
    obtain ⟨k, rp, Am, cm, hk, rfl, sr⟩ := hrel
    by_cases hlt : k < C.n
    · obtain ⟨ib, off, rfl, -, -, e2, e3⟩ := hV.at_ rd sr.below hlt
      have SR := Lib.hid sr
      obtain ⟨c0, c1, c2, c3, c4⟩ := (sr.blk 0 rfl).five
      have i0 : (0 : Int) ≤ (k : Int) := by omega
      have i1 : (k : Int) < (C.n : Int) := by omega
      have HV2 := Lib.hid hV
      have RD2 := Lib.hid rd
      clear sr c0 c1 c3 c4 rd hV hC
      go_wp2_with fail
      go_region_law (first
        | (go_simp; refine (mx_new SR.out.drew (C.B k) (C.P k) C.ph).mono ?_; rintro e w1 ⟨rr, rfl, s3⟩; have q2 := (s3.blk 0 rfl).five.2.2.1; have s4 := s3.alloc (.cells #[.pointer (some ⟨rr, 0, none⟩)] 71); have q3 := (s4.blk 0 rfl).five.2.2.1; have S4 := Lib.hid s4; clear s3 s4)
        | (refine step_lis (by rfl) _ _ _ (by rfl) 71 iM (.pointer none) 1 8 Try.underlying45 hiM hzM hsM hbM (by rfl) (by omega) (.slice Am k cm) k (mcs rp k) (by rfl) (S4.out.lis 1 rfl) _ 1 1 [.pointer (some ⟨rr, 0, none⟩)] (by rfl) (rds_box w1 _ _) (by simp [Value.oneCell']) (by unfold maxLen; omega) (by omega) ?_; intro B c w2 hl hg hat; have s5 := S4.out.lis_put 1 rfl hl hg hat; have f5 := (s5.blk 0 rfl).frozen 2; have q5 := (s5.blk 0 rfl).five.2.2.1; have S5 := Lib.hid s5; clear s5 hl hg hat))
      all_goals
        go_wp2_with fail
        go_roundw
        case rel =>
          have X1 := S5.out.set_ 0 rfl 2 (.slice B (k + 1) c)
          have X2 : St w None (w2.setCell ⟨g0 + 1, 2, none⟩ (.slice B (k + 1) c)) ([BlkR (g0 + 1) 48 #[.slice (some ⟨ib, off, none⟩) C.n cap, .int .u64 C.ph, .slice B (k + 1) c, .slice (some ⟨g0, 0, none⟩) C.n C.n, .slice none 0 0], LisR 71 1 (.slice B (k + 1) c) (k + 1) (mcs (upd rp k rr) (k + 1)),
            ArrR g0 3 C.n (fun i => .int .i64 0), LisR 84 2 (.slice none 0 0) 0 []] ++ (List.range k).map (fun i => MxE (rp i) (C.B i) (C.P i) C.ph [] C.ph) ++ [MxR rr (C.B k) (C.P k) C.ph C.ph []]) := by
            rw [mcs_snoc]
            exact X1
          have X4 := X2.fam_snoc (F' := fun i => MxE (upd rp k rr i) (C.B i) (C.P i) C.ph [] C.ph) (MxE.ok _ _ _ _ _ _) (fun i hi => by simp [upd, show ¬ i = k by omega]) (fun S h => ⟨C.ph, Int.le_refl _, xok0 (HSH.out k hlt) HPH.out, by simpa [upd] using h⟩)
          exact ⟨k + 1, upd rp k rr, B, c, by omega, by go_num, X4⟩
        case measure => simp [intOf]; omega
    · obtain rfl : k = C.n := by omega
      have SR := Lib.hid sr
      clear sr
      go_wp2_with fail
      go_ret
      have Y0 : St w None _ (RL0 C A cap (g0 + 1) g0 rp Am cm none 0 C.ph [] (bs0 C.ph)) := SR.out
      obtain ⟨S', y1, y2, y3⟩ := Y0.made
      exact ⟨_, _, rp, rfl, HH.out.more y3 (Star.one (RBusR.ok C A cap (g0 + 1) g0 rp 0 (bs0 C.ph)) ⟨[], Am, cm, none, 0, hok_begin C.ph, by simp, y1⟩) y2⟩
end
end Go.Proofs.Ytabocojmobbpaaa
