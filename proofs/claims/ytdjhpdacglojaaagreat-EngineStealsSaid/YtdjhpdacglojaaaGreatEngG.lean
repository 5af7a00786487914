/- Layer 24: what the statements begin with, in memory. -/
import Derived.Test.YtdjhpdacglojaaaGreatEngF
namespace Go.Proofs.YtdjhpdacglojaaaGreat
open Go.RowKit
set_option linter.unusedVariables false
set_option maxRecDepth 100000
set_option maxHeartbeats 1600000
section
variable {w0 w : World} {S0 : Nat → Prop} {X N L : List Res} {C : bs.BC} {A : Option Addr} {cap : Nat} {V : Nat → Nat → Value}
theorem both24_c (w : World) (hC : C.OK) (hph : C.ph = 0) (rd : RdM w A C.n 4 V) (hV : bs.MV C V) :
    Calls Tryz.prog 10 #[.slice A C.n cap] w fun r w' => ∃ a bp e b g mb mp r1 r2, r = .returned (.tuple #[ptrV a.p, ptrV a.d, ptrV e, ptrV r1, ptrV r2]) ∧ St w None w' (DvL a 4 2 bp (Dv.new (egS 4) 5) ++ (EngX e b g mb a.d mp C 0 idleV (bs.bs0 0) ++ [])) := by
  have hcl : po.Cls (fun j i => (#[.int .i64 8, .int .i64 4] : Array Value).getD (j * 2 + i) (.bool false)) 1 (fun _ => 8) (fun _ => 4) := fun j hj => by
    obtain rfl : j = 0 := by omega
    refine ⟨rfl, rfl, ?_, ?_⟩ <;> decide
  have CL := Lib.hid classes24_c
  have NP := Lib.hid (fun (W : World) (h : St w None W [BlkR w.heap.size 186 #[.int .i64 8, .int .i64 4]]) => po.new_o h (po.rdm_blk (k := 1) (m := 2) (h.blk 0 rfl) rfl) hcl may4 (cap := 1))
  have NR := Lib.hid (fun (W : World) (g : Nat) (L : List Res) (h : St w None W (L ++ [BlkR g 186 #[.int .i64 8, .int .i64 4]])) => po.RNew_o h (po.rdm_blk (k := 1) (m := 2) (h.blk L.length (g := g) (t := 186) (cs := #[.int .i64 8, .int .i64 4]) (by simp)) rfl) hcl may4 (cap := 1))
  have NB := Lib.hid (fun (W : World) (p : Nat) (st : Nat → po.Buf) (h : St w None W [po.PoolR p 4 st]) => bs.bnew_ok (cap := cap) h hC (rd.below h.below (Nat.le_refl _)) hV)
  have NX := Lib.hid (fun (W : World) (L : List Res) (h : St w None W L) => bs.RNew_o (cap := cap) h hC (rd.below h.below (Nat.le_refl _)) hV)
  rw [hph] at NB NX
  rw [flat4, show po.fresh z4 = egS 0 from egS_0.symm] at NP NR
  clear hcl hC hph rd hV
  go_enter Tryz.func10, Tryz.ntmps10
  go_wp2_with fail
  refine (CL.out w).mono ?_
  rintro r w1 ⟨rfl, rfl⟩
  have s1 : St w None _ [_] := (St.begin w).box 186 #[.int .i64 8, .int .i64 4]
  have K1 := Lib.hid (NP.out _ s1)
  clear s1
  go_wp2_with fail
  refine K1.out.mono ?_
  rintro r w2 ⟨p, rfl, s2'⟩
  have K2 := Lib.hid (NB.out w2 p (egS 0) (s2'.drop 0 (by simp)))
  clear s2' K1
  go_wp2_with fail
  refine K2.out.mono ?_
  rintro r w3 ⟨b, g, mp, rfl, s3⟩
  have K3 := Lib.hid (newD_o (sz := 2) (c := 5) (show St w None w3 (po.PoolR p 4 (egS 0) :: [bs.BusP C b g mp (bs.bs0 0)]) from s3) (fun _ => 0) (by omega) (by omega) rfl)
  clear s3 K2
  go_wp2_with fail
  refine K3.out.mono ?_
  rintro r w4 ⟨a, rfl, rfl, s4⟩
  have K4 := Lib.hid (enew_o (s4.comm) a.d b (id := 0) (by omega))
  clear s4 K3
  go_wp2_with fail
  refine K4.out.mono ?_
  rintro r w5 ⟨e, mb, rfl, s5'⟩
  have S5 := Lib.hid (show St w None w5 ((DvL a 4 2 (fun _ => 0) (Dv.new (egS 0) 5) ++ [BlkR e 151 (engV a.d b mb 0 idleV), MapR Tryz.prog 3 mb 3 (behM e)]) ++ [bs.BusP C b g mp (bs.bs0 0)]) from (St.comm (A := [bs.BusP C b g mp (bs.bs0 0)]) s5'))
  clear s5' K4
  go_wp2_with fail
  refine (CL.out w5).mono ?_
  rintro r w6 ⟨rfl, rfl⟩
  have K6 := Lib.hid (NR.out _ _ _ (S5.out.box 186 #[.int .i64 8, .int .i64 4]))
  clear S5
  go_wp2_with fail
  refine K6.out.mono ?_
  rintro r w7 ⟨r1, rfl, s7'⟩
  have S7 := Lib.hid (show St w None w7 (DvL a 4 2 (fun _ => 0) (Dv.new (egS 0) 5) ++ (EngX e b g mb a.d mp C 0 idleV (bs.bs0 0) ++ [po.RPR r1 4 (egS 0)])) from s7'.drop 11 (by simp [DvL]))
  clear s7' K6
  have GO := Lib.hid (fun (k : Nat) (hk : k < 4) (W : World) (h : St w None W (DvL a 4 2 (fun _ => 0) (Dv.new (egS k) 5) ++ (EngX e b g mb a.d mp C 0 idleV (bs.bs0 0) ++ [po.RPR r1 4 (egS k)]))) => po.get_o h 1 rfl (egS_ok k) (egS_get hk))
  have GR := Lib.hid (fun (k : Nat) (hk : k < 4) (W : World) (h : St w None W (DvL a 4 2 (fun _ => 0) (Dv.new (egS (k + 1)) 5) ++ (EngX e b g mb a.d mp C 0 idleV (bs.bs0 0) ++ [po.RPR r1 4 (egS k)]))) => po.RGet_o h 11 rfl (egS_ok k) (egS_get hk))
  go_wp2_with fail
  go_loopw [16] (fun i wr => ∃ k : Nat, k ≤ 4 ∧ i = .int .i64 k ∧ St w None wr (DvL a 4 2 (fun _ => 0) (Dv.new (egS k) 5) ++ (EngX e b g mb a.d mp C 0 idleV (bs.bs0 0) ++ [po.RPR r1 4 (egS k)]))) (fun i _ => 4 - (intOf i).toNat)
  case atStart => exact ⟨0, by omega, rfl, S7.out⟩
  case round =>
    clear S7
    obtain ⟨k, hk, rfl, sr⟩ := hrel
    by_cases hlt : k < 4
    · have z1 : decide ((k : Int) < 4) = true := decide_eq_true (by omega)
      have K8 := Lib.hid (GO.out k hlt _ sr)
      have G8 := Lib.hid (GR.out k hlt)
      clear sr
      go_wp2_with fail
      refine K8.out.mono ?_
      rintro r w8 ⟨rfl, s8⟩
      have K9 := Lib.hid (G8.out w8 s8)
      clear s8 K8
      go_wp2_with fail
      refine K9.out.mono ?_
      rintro r w9 ⟨rfl, s9⟩
      have S9 := Lib.hid (show St w None w9 (DvL a 4 2 (fun _ => 0) (Dv.new (egS (k + 1)) 5) ++ (EngX e b g mb a.d mp C 0 idleV (bs.bs0 0) ++ [po.RPR r1 4 (egS (k + 1))])) from s9)
      clear s9 K9
      go_wp2_with fail
      go_roundw
      case rel => exact ⟨k + 1, by omega, by go_num, S9.out⟩
      case measure => simp [intOf]; omega
    · obtain rfl : k = 4 := by omega
      have z1 : decide ((4 : Int) < 4) = false := by decide
      go_wp2_with fail
      refine (rnew20_c r1 wr).mono ?_
      rintro r w8 ⟨⟨d, rfl⟩, hb8⟩
      have K8 := Lib.hid (NX.out _ _ (sr.stay hb8))
      clear sr hb8
      go_wp2_with fail
      refine K8.out.mono ?_
      rintro r w9 ⟨b2, sb2, rp2, rfl, s9⟩
      have S9 := Lib.hid s9
      clear s9 K8
      go_wp2_with fail
      refine (rnew24_c d b2 w9).mono ?_
      rintro r w10 ⟨⟨r2, rfl⟩, hb10⟩
      have S10 := Lib.hid (S9.out.stay hb10)
      clear hb10 S9
      go_wp2_with fail
      have FF := Lib.hid (show St w None w10 (DvL a 4 2 (fun _ => 0) (Dv.new (egS 4) 5) ++ (EngX e b g mb a.d mp C 0 idleV (bs.bs0 0) ++ [])) from S10.out.take 11)
      refine bodyPost_ret (v := .tuple #[ptrV a.p, ptrV a.d, ptrV e, ptrV r1, ptrV r2]) ?_ rfl ⟨a, fun _ => 0, e, b, g, mb, mp, r1, r2, rfl, FF.out⟩
      simp [results, go_sem]
end
end Go.Proofs.YtdjhpdacglojaaaGreat
