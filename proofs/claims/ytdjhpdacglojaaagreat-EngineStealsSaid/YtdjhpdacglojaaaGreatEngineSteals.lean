/-
  For all masters, sizes and wants EngineSteals answers true, and changes nothing: the engine has no more slots in any span than its share lets, writes no more bytes than it has slots, and never beside the pieces. No condition.
-/
import Derived.Test.YtdjhpdacglojaaaGreatRows
import Derived.Test.YtdjhpdacglojaaaGreatFr
import Derived.Test.YtdjhpdacglojaaaGreatEngN
import Derived.Test.YtdjhpdacglojaaaGreatOpen
namespace Go.Proofs.YtdjhpdacglojaaaGreat.engineSteals
open Go.ChangeShapes Go.WideShapes Go.ChangeAt Go.RowKit
set_option linter.unusedVariables false
theorem own : ownKnob Tryz.prog.godebug = none := by kernel_rfl
theorem laid : laidOutB Tryz.prog = true := by kernel_rfl
set_option maxRecDepth 100000
set_option maxHeartbeats 4000000
theorem tmodN {j n : Nat} (hn : 0 < n) : Int.tmod (j : Int) (n : Int) = ((j % n : Nat) : Int) := by
  rw [Int.tmod_eq_emod_of_nonneg (by omega)]
  first | rfl | exact (Int.natCast_emod j n).symm | exact (Int.ofNat_emod j n).symm
def rqS (t i : Nat) (z : Int) : Rq := ⟨(t : Int), 0, 1000, 0, (i : Int), 1, 2, z, false, false, false, false⟩
theorem walk (A : Option Addr) (n cap : Nat) (V : Nat → Nat → Value) (A1 : Option Addr) (n1 cap1 : Nat) (f1 : Nat → Int) (A2 : Option Addr) (n2 cap2 : Nat) (f2 : Nat → Int) (w : World) (hm : n ≤ maxLen) (hm1 : n1 ≤ maxLen) (hm2 : n2 ≤ maxLen) (rd : RdM w A n 4 V) (hV : bs.MV (bs.bcOf n V 0) V)
    (rd1 : Rd w A1 n1 (fun i => .int .u8 (f1 i))) (w1 : ∀ i, (Lit.int .u8 (f1 i)).wf = true) (rd2 : Rd w A2 n2 (fun i => .int .u16 (f2 i))) (w2 : ∀ i, (Lit.int .u16 (f2 i)).wf = true) :
    Calls Tryz.prog 4 #[.slice A n cap, .slice A1 n1 cap1, .slice A2 n2 cap2] w fun r w' => r = .returned (.bool true) ∧ Below w.heap.size w w' := by
  have AW := Lib.hid (awake24_c w)
  have AL := Lib.hid (fun (W : World) (h : Below w.heap.size w W) => bs.all_any (C := bs.bcOf n V 0) (cap := cap) W hm (rd.below h (Nat.le_refl _)) hV)
  have KB := Lib.hid (fun (W : World) (h : Below w.heap.size w W) (hC : (bs.bcOf n V 0).OK) => both24_n (cap := cap) W hC (show (bs.bcOf n V 0).n = n from rfl) rfl (rd.below h (Nat.le_refl _)) hV)
  have AT := Lib.hid (fun (W : World) (h : Below w.heap.size w W) (h0 : 0 < n) => hV.at_ rd h h0)
  have RD1 := Lib.hid rd1
  have RD2 := Lib.hid rd2
  have W1 := Lib.hid w1
  have W2 := Lib.hid w2
  have BC := Lib.hid (fun (h1 : 1 ≤ n) (h2 : n ≤ 16) (h : ∀ i, i < (bs.bcOf n V 0).n → bs.okM ((bs.bcOf n V 0).prio i) ((bs.bcOf n V 0).burst i) ((bs.bcOf n V 0).B i) ((bs.bcOf n V 0).P i)) => bs.bc_ok (C := bs.bcOf n V 0) (ph := 0) h1 h2 h rfl (by omega))
  have HCn := Lib.hid (show (bs.bcOf n V 0).n = n from rfl)
  have HCp := Lib.hid (show (bs.bcOf n V 0).ph = 0 from rfl)
  clear rd hV rd1 rd2 w1 w2 hm
  unfold maxLen at hm1 hm2
  generalize bs.bcOf n V 0 = C at *
  go_enter Tryz.func4, Tryz.ntmps4
  go_wp2_with fail
  refine AW.out.mono ?_
  rintro r wa ⟨rfl, hba⟩
  have HBA := Lib.hid hba
  obtain ⟨x, hx1, -, hxc⟩ := AL.out wa hba
  have XC := Lib.hid hxc
  have HX1 := Lib.hid hx1
  rw [HCn.out] at XC
  clear AW hba hxc hx1 AL
  cases x with
  | false =>
    by_cases hn1 : n1 = 0
    · subst hn1
      go_wp2_with fail
      refine XC.out.mono ?_
      rintro r w4 ⟨rfl, hw4⟩
      have DN := Lib.hid (below_then HBA.out hw4)
      clear hw4
      go_wp2_with fail
      go_ret
      exact ⟨rfl, DN.out⟩
    · have z0 : ((n1 : Int) == 0) = false := beq_eq_false_iff_ne.2 (by omega)
      go_wp2_with fail
      refine XC.out.mono ?_
      rintro r w4 ⟨rfl, hw4⟩
      have DN := Lib.hid (below_then HBA.out hw4)
      clear hw4
      go_wp2_with fail
      go_ret
      exact ⟨rfl, DN.out⟩
  | true =>
  obtain ⟨g1, g16, gok⟩ := HX1.out rfl
  rw [HCn.out] at g1 g16
  have HC := Lib.hid (BC.out g1 g16 gok)
  clear gok HX1 BC
  by_cases hn1 : n1 = 0
  · subst hn1
    go_wp2_with fail
    refine XC.out.mono ?_
    rintro r w4 ⟨rfl, hw4⟩
    have DN := Lib.hid (below_then HBA.out hw4)
    clear hw4
    go_wp2_with fail
    go_ret
    exact ⟨rfl, DN.out⟩
  have z0 : ((n1 : Int) == 0) = false := beq_eq_false_iff_ne.2 (by omega)
  by_cases hn2 : n2 = 0
  · subst hn2
    go_wp2_with fail
    refine XC.out.mono ?_
    rintro r w4 ⟨rfl, hw4⟩
    have DN := Lib.hid (below_then HBA.out hw4)
    clear hw4
    go_wp2_with fail
    go_ret
    exact ⟨rfl, DN.out⟩
  have z9 : ((n2 : Int) == 0) = false := beq_eq_false_iff_ne.2 (by omega)
  go_wp2_with fail
  refine XC.out.mono ?_
  rintro r w4 ⟨rfl, hw4⟩
  have K4 := Lib.hid (KB.out w4 (below_then HBA.out hw4) HC.out)
  have HB4 := Lib.hid (below_then HBA.out hw4)
  clear XC hw4 HBA KB
  go_wp2_with fail
  refine K4.out.mono ?_
  rintro r w5 ⟨a, bp, e, b, g, mb, mp, r1, r2, rfl, s5⟩
  obtain ⟨iI, hiI, hzI, hsI, hbI⟩ := info3w Tryz.infoEI
  have mU : ∀ W : World, (Instr.makeSlice 35 (.int .i64 201) (.int .i64 201)).run Tryz.prog W = .ok (.slice (some ⟨W.heap.size, 0, none⟩) 201 201) (W.alloc (.cells (madeCells #[.int .i64 0] 201) 3)) := fun W => run_make_rowN (P := Tryz.prog) 35 3 iI (.int .i64 0) Tryz.underlying35 hiI hzI rfl hsI .i64 .i64 201 (by rw [hbI]; decide) (by decide) W
  obtain ⟨wb, hwb⟩ : ∃ wb, w5.heap.size = wb := ⟨_, rfl⟩
  have S6 := Lib.hid (show St w4 None (w5.alloc (.cells (madeCells #[.int .i64 0] 201) 3)) (DvL a 4 2 bp (Dv.new (egS 4) 5) ++ (EngX e b g mb a.d mp C 0 idleV (bs.bs0 0) ++ [ArrR wb 3 201 (fun _ => .int .i64 0)])) from by
    have h := s5.made_row 3 201 (.int .i64 0)
    rw [hwb] at h
    exact h)
  have HST := Lib.hid (StE.begin HC.out HCp.out)
  clear s5 K4
  go_wp2_with fail
  clear mU
  go_loopw [13] (fun t wr => ∃ (k : Nat) (bp : Nat → Nat) (D : Dv) (m : Mv) (s : bs.BS) (had : Nat → Int), k ≤ 200 ∧ t = .int .i64 (k : Int) ∧ StE C k D m s had ∧ St w4 None wr (DvL a 4 2 bp D ++ (EngX e b g mb a.d mp C 0 m s ++ [ArrR wb 3 201 (fun i => .int .i64 (had i))]))) (fun t _ => 200 - (intOf t).toNat)
  case atStart => exact ⟨0, bp, _, _, _, fun _ => 0, by omega, rfl, HST.out, S6.out⟩
  case round =>
  clear S6 HST hwb
  obtain ⟨k, bp, D, m, s, had, hk, rfl, hS, sr⟩ := hrel
  have HS := Lib.hid hS
  have SR := Lib.hid sr
  clear hS
  by_cases hlt : k < 200
  · have d0 : decide ((k : Int) < 200) = true := decide_eq_true (by omega)
    obtain ⟨q3, hq3⟩ : ∃ q3, k % 3 = q3 := ⟨_, rfl⟩
    have ct3 : Int.tmod (k : Int) 3 = (q3 : Int) := by
      have h := tmodN (j := k) (n := 3) (by omega)
      rw [hq3] at h
      exact h
    obtain ⟨y3, hy3⟩ : ∃ y, ((q3 : Int) == 0) = y := ⟨_, rfl⟩
    have SHD := Lib.hid (HS.out.sh)
    have HMO := Lib.hid (HS.out.ok)
    have SSO := Lib.hid (HS.out.so)
    clear hq3 sr
    go_upto_if 57 with (fail)
    go_cut [] (fun wx => ∃ (bp1 : Nat → Nat) (D1 : Dv), MidE k D1 (had k).toNat ∧ St w4 None wx (DvL a 4 2 bp1 D1 ++ (EngX e b g mb a.d mp C 0 m s ++ [ArrR wb 3 201 (fun i => .int .i64 (had i))])))
    case first =>
      cases y3 with
      | false =>
        go_wp2_with fail
        go_meet
        exact ⟨bp, D, HS.out.mid, SR.out⟩
      | true =>
        obtain ⟨q4, hq4⟩ : ∃ q4, k % 4 = q4 := ⟨_, rfl⟩
        have h4 : q4 < 4 := by omega
        have ct4 : Int.tmod (k : Int) 4 = (q4 : Int) := by
          have h := tmodN (j := k) (n := 4) (by omega)
          rw [hq4] at h
          exact h
        obtain ⟨j1, hj1⟩ : ∃ j1, k % n1 = j1 := ⟨_, rfl⟩
        have hj1n : j1 < n1 := by rw [← hj1]; exact Nat.mod_lt _ (by omega)
        have ct1 : Int.tmod (k : Int) (n1 : Int) = (j1 : Int) := by rw [tmodN (by omega), hj1]
        have e1 : decide ((n1 : Int) = 0) = false := decide_eq_false (by omega)
        have e2 : ¬ (n1 : Int) = 0 := by omega
        obtain ⟨ib, off, rfl, -, hc⟩ := RD1.out.below (below_then HB4.out SR.out.below) (Nat.le_refl _) (by omega)
        have ck := hc j1 hj1n
        dsimp only at ck
        have by1 := bounds_u8 (W1.out j1)
        obtain ⟨y1, hy1⟩ : ∃ y1, f1 j1 = y1 := ⟨_, rfl⟩
        rw [hy1] at ck by1
        obtain ⟨b0, b1⟩ := by1
        obtain ⟨z5, hz5⟩ : ∃ z5, Int.tmod y1 5 = z5 := ⟨_, rfl⟩
        have hz6 : y1 % 5 = z5 := by rw [← hz5]; exact (Int.tmod_eq_emod_of_nonneg b0).symm
        have z50 : 0 ≤ z5 := by omega
        have z51 : z5 ≤ 4 := by omega
        obtain ⟨zl, hzl⟩ : ∃ zl, 1 + z5 = zl := ⟨_, rfl⟩
        have cz : IntKind.i64.wrap (1 + z5) = zl := by rw [hzl]; exact IntWalk.i64_in _ ⟨by omega, by omega⟩
        have K5 := Lib.hid (subW SR.out HS.out.I (rqS k q4 zl) ⟨rfl, rfl, rfl, rfl⟩ (wf_small (show (-9223372036854775808 : Int) ≤ (k : Int) by omega) (show (k : Int) ≤ 9223372036854775807 by omega)) (show (0 : Int) ≤ 1000 by omega) (show (1000 : Int) ≤ 18446744073709551615 by omega) (by have := HS.out.nx; omega))
        have ZL := Lib.hid (show (rqS k q4 zl).len ≤ 5 by show zl ≤ 5; omega)
        unfold rqS Rq.req at K5
        clear hc hq4 hj1 hy1 hz6 hzl
        go_wp2_with fail
        refine K5.out.mono ?_
        rintro r w6 ⟨f, D', bp', rfl, hf, s6⟩
        have hM := HS.out.sub (r := rqS k q4 zl) rfl ZL.out hf
        have HM := Lib.hid hM
        have K6 := Lib.hid (startW s6 hM.I)
        clear K5 hf s6 hM ck
        go_wp2_with fail
        refine K6.out.mono ?_
        rintro r w7 ⟨B6, d6, ids, D2, rfl, -, -, -, hI2, -, e2, e3, -, e5, s7⟩
        have S7 := Lib.hid (show St w4 None w7 (DvL a 4 2 bp' D2 ++ (EngX e b g mb a.d mp C 0 m s ++ [ArrR wb 3 201 (fun i => .int .i64 (had i))])) from s7.take 12)
        have HM2 := Lib.hid (HM.out.start hI2 e2 e3 e5)
        clear K6 hI2 e2 e3 e5 s7
        go_wp2_with fail
        go_meet
        exact ⟨bp', D2, HM2.out, S7.out⟩
    case rest =>
    obtain ⟨bp1, D1, hM, s1⟩ := hcut
    have HM := Lib.hid hM
    have HNX := Lib.hid HS.out.nx
    have K7 := Lib.hid (reapW s1 hM.I)
    clear hM s1 SR HS ct3 hy3
    go_wp2_with fail
    refine K7.out.mono ?_
    rintro r w8 ⟨d8, f8, g8, k8, q8, st8, rfl, -, -, hI8, hK8, s8⟩
    have M8 := Lib.hid (HM.out.reap hI8 hK8)
    have S8 := Lib.hid s8
    clear K7 HM hI8 hK8 s8
    generalize Dv.rpD _ _ _ _ _ _ _ = D8 at M8 S8
    generalize (if f8 = 0 then d8.req else 0) = v8
    obtain ⟨j2, hj2⟩ : ∃ j2, k % n2 = j2 := ⟨_, rfl⟩
    have hj2n : j2 < n2 := by rw [← hj2]; exact Nat.mod_lt _ (by omega)
    have ct2 : Int.tmod (k : Int) (n2 : Int) = (j2 : Int) := by rw [tmodN (by omega), hj2]
    have e3 : decide ((n2 : Int) = 0) = false := decide_eq_false (by omega)
    have e4 : ¬ (n2 : Int) = 0 := by omega
    have by2 := bounds_u16 (W2.out j2)
    obtain ⟨y, hy⟩ : ∃ y, f2 j2 = y := ⟨_, rfl⟩
    rw [hy] at by2
    have HY := Lib.hid hy
    clear hj2 hy
    go_wp2_with fail
    go_loopw [14, 15] (fun l id wx => ∃ j : Nat, 1 ≤ j ∧ j ≤ n ∧ id = .int .i64 (j : Int) ∧ ∃ B cp, l = .slice B (ili y j).length cp ∧ St w4 None wx (DvL a 4 2 bp1 D8 ++ (EngX e b g mb a.d mp C 0 m s ++ [ArrR wb 3 201 (fun i => .int .i64 (had i)), LisR 3 1 (.slice B (ili y j).length cp) (ili y j).length (iv (ili y j))]))) (fun _ id _ => n - (intOf id).toNat)
    case atStart => exact ⟨1, by omega, g1, rfl, none, 0, by rw [ili_one]; rfl, by rw [ili_one]; exact S8.out.lis_nil _ _⟩
    case round =>
    clear S8
    obtain ⟨j, hj1, hj, rfl, B, cp, rfl, sr⟩ := hrel
    have hl0 := ili_len y j
    by_cases hlt2 : j < n
    · obtain ⟨ib, off, rfl, -, hcell⟩ := RD2.out.below (below_then HB4.out sr.below) (Nat.le_refl _) (by omega)
      have ck := hcell j2 hj2n
      dsimp only at ck
      rw [HY.out] at ck
      clear hcell
      cases hb : bs.bitB y j with
      | false =>
        have hb' : (bits BinOp.and IntKind.u16 (y / 2 ^ j) 1 == 1) = false := hb
        have HI := Lib.hid (ili_no hb)
        obtain ⟨q, hq⟩ : ∃ q, (ili y j).length = q := ⟨_, rfl⟩
        rw [hq] at sr
        have SR := Lib.hid sr
        have HL := Lib.hid hq
        rw [hq]
        clear hq hb sr
        go_wp2
        go_roundw
        case rel => exact ⟨j + 1, by omega, by omega, by go_num, B, cp, by rw [HI.out, HL.out], by rw [HI.out, HL.out]; exact SR.out⟩
        case measure => simp [intOf]; omega
      | true =>
        have hb' : (bits BinOp.and IntKind.u16 (y / 2 ^ j) 1 == 1) = true := hb
        have HI := Lib.hid (ili_yes hj1 hb)
        clear hb
        obtain ⟨q, hq⟩ : ∃ q, (ili y j).length = q := ⟨_, rfl⟩
        rw [hq] at sr
        have HQ := Lib.hid hq
        have hq2 : q ≤ n := by omega
        rw [hq]
        clear hq
        have s4 := sr.alloc (.cells #[.int .i64 j] 3)
        have hl4 := s4.lis 12 rfl
        have hr4 := rds_box wr 3 (.int .i64 j)
        clear sr
        go_wp2_with (at_builtin; refine wpList_lis rfl (.tmp 98) (.tmp 100) 35 rfl 3 iI (.int .i64 0) 1 8 Tryz.underlying35 hiI hzI hsI hbI rfl (by decide) _ _ _ rfl hl4 (some ⟨wr.heap.size, 0, none⟩) 1 1 [.int .i64 j] rfl hr4 (by simp [Value.oneCell']) (by unfold maxLen; omega) (by omega) ?_; intro B6 cap6 w6 hl6 hg6 hat6; have s6 : St w4 None w6 (DvL a 4 2 bp1 D8 ++ (EngX e b g mb a.d mp C 0 m s ++ [ArrR wb 3 201 (fun i => .int .i64 (had i)), _])) := s4.lis_put 12 rfl hl6 hg6 hat6; clear hl6 hg6 hat6)
        go_roundw
        case rel =>
          refine ⟨j + 1, by omega, by omega, by go_num, B6, cap6, ?_, ?_⟩
          · rw [HI.out]; simp only [List.length_append, List.length_singleton, HQ.out]
          · rw [HI.out, iv_app]; simp only [List.length_append, List.length_singleton, HQ.out]
            exact s6
        case measure => simp [intOf]; omega
    · obtain rfl : j = n := by omega
      have d2 : decide ((j : Int) < (j : Int)) = false := decide_eq_false (by omega)
      have K9 := Lib.hid (eslot_o sr M8.out.I HMO.out HC.out SSO.out (by omega) (now := k) (by omega) (A := B) (cp := cp) (l := ili y j) (by omega) (fun W D m s h => (h.lis 12 rfl).reads) 255)
      obtain ⟨q, hq⟩ : ∃ q, (ili y j).length = q := ⟨_, rfl⟩
      have HL := Lib.hid hq
      rw [hq] at K9 ⊢
      have cw : IntKind.u64.wrap (k : Int) = (k : Int) := IntWalk.u64_in _ ⟨by omega, by omega⟩
      clear sr hq hl0 by2
      go_wp2_with fail
      refine K9.out.mono ?_
      rintro r w9 ⟨v, f, D2, m2, s', rfl, hSl, hI2, hm2, s9'⟩
      have s9 : St w4 None w9 (DvL a 4 2 bp1 D2 ++ (EngX e b g mb a.d mp C 0 m2 s' ++ [ArrR wb 3 201 (fun i => .int .i64 (had i))])) := s9'.take 12
      obtain ⟨jn, hjn⟩ : ∃ jn : Nat, k + 1 = jn := ⟨_, rfl⟩
      have cj : IntKind.i64.wrap ((k : Int) + 1) = (jn : Int) := by rw [show (k : Int) + 1 = (jn : Int) by omega]; exact IntWalk.i64_in _ ⟨by omega, by omega⟩
      have STP := Lib.hid (fun (x : Int) (hx : x = if f = 0 ∧ v = 0 then 1 else 0) => M8.out.slot hSl HC.out HCn.out HCp.out hlt SHD.out SSO.out hI2 hm2 hx)
      rw [hjn] at STP
      obtain ⟨u0, u1⟩ := SHD.out.bd (Nat.le_refl k)
      obtain ⟨hd, hhd⟩ : ∃ hd, had k = hd := ⟨_, rfl⟩
      have c0 := s9.arr_cell 11 rfl (k := k) (by omega)
      have c1 := s9.arr_cell 11 rfl (k := jn) (by omega)
      have fz := s9.arr_frozen 11 rfl jn
      have s10 : St w4 None (w9.setCell ⟨wb, jn, none⟩ (.int .i64 hd)) (DvL a 4 2 bp1 D2 ++ (EngX e b g mb a.d mp C 0 m2 s' ++ [ArrR wb 3 201 (fun i => .int .i64 (bs.upd had jn hd i))])) := (s9.arr_set 11 rfl (k := jn) (by omega) (.int .i64 hd)).arr_like (V' := fun i => .int .i64 (bs.upd had jn hd i)) 11 rfl (fun i hi => by unfold bs.upd; split <;> rfl)
      have c2 := s10.arr_cell 11 rfl (k := jn) (by omega)
      have fy := s10.arr_frozen 11 rfl jn
      have S11 := Lib.hid (show St w4 None ((w9.setCell ⟨wb, jn, none⟩ (.int .i64 hd)).setCell ⟨wb, jn, none⟩ (.int .i64 (hd + 1))) (DvL a 4 2 bp1 D2 ++ (EngX e b g mb a.d mp C 0 m2 s' ++ [ArrR wb 3 201 (fun i => .int .i64 (bs.upd had jn (hd + 1) i))])) from (s10.arr_set 11 rfl (k := jn) (by omega) (.int .i64 (hd + 1))).arr_like (V' := fun i => .int .i64 (bs.upd had jn (hd + 1) i)) 11 rfl (fun i hi => by unfold bs.upd; split <;> simp [*]))
      have S10 := Lib.hid s10
      rw [show bs.upd had jn hd jn = hd from if_pos rfl] at c2
      rw [hhd] at c0 STP u0 u1
      have jb : (jn : Int) < 201 := by omega
      have jc : (0 : Int) ≤ (jn : Int) := by omega
      have jk : k < jn := by omega
      have jl : jn ≤ 200 := by omega
      clear K9 hSl hI2 hm2 s9 s9' s10 hhd hjn M8 SHD SSO
      by_cases hf : f = 0
      · have zf : (f == 0) = true := by simp [hf]
        by_cases hv : v = 0
        · have zv : (v == 0) = true := by simp [hv]
          have ST := Lib.hid (STP.out 1 (if_pos ⟨hf, hv⟩).symm)
          clear hf hv STP
          go_wp2_with fail
          go_roundw
          case rel => exact ⟨jn, bp1, D2, m2, s', _, by omega, by go_num, ST.out, S11.out⟩
          case measure => simp [intOf]; omega
        · have zv : (v == 0) = false := beq_eq_false_iff_ne.2 hv
          have ST := Lib.hid (STP.out 0 (if_neg (fun h => hv h.2)).symm)
          rw [Int.add_zero] at ST
          clear hf hv STP
          go_wp2_with fail
          go_roundw
          case rel => exact ⟨jn, bp1, D2, m2, s', _, by omega, by go_num, ST.out, S10.out⟩
          case measure => simp [intOf]; omega
      · have zf : (f == 0) = false := beq_eq_false_iff_ne.2 hf
        have ST := Lib.hid (STP.out 0 (if_neg (fun h => hf h.1)).symm)
        rw [Int.add_zero] at ST
        clear hf STP
        go_wp2_with fail
        go_roundw
        case rel => exact ⟨jn, bp1, D2, m2, s', _, by omega, by go_num, ST.out, S10.out⟩
        case measure => simp [intOf]; omega
  · obtain rfl : k = 200 := by omega
    have HBY := Lib.hid (HS.out.by_)
    have HGO := Lib.hid (HS.out.go)
    have HIN := Lib.hid (HS.out.I.c.pok)
    have HSH := Lib.hid (HS.out.sh)
    clear hk hlt sr HS
    go_wp2_with fail
    go_loopw [18, 19] (fun wr i wx => ∃ (q u : Nat), q ≤ 4 ∧ u ≤ 32 ∧ i = .int .i64 (q : Int) ∧ wr = .int .i64 (u : Int) ∧ nzA D.st q = u ∧ St w4 None wx (DvL a 4 2 bp D ++ (EngX e b g mb a.d mp C 0 m s ++ [ArrR wb 3 201 (fun i => .int .i64 (had i))]))) (fun _ i _ => 4 - (intOf i).toNat)
    case atStart => exact ⟨0, 0, by omega, by omega, rfl, rfl, rfl, SR.out⟩
    case round =>
    clear SR
    obtain ⟨q, u, hq, hu32, rfl, rfl, hu, sq⟩ := hrel
    have HU := Lib.hid hu
    clear hu
    by_cases hq4 : q < 4
    · have z1 : decide ((q : Int) < 4) = true := decide_eq_true (by omega)
      have hIB := HBY.out.1 q hq4
      have h8 : (D.st q).bs.length = 8 := hIB.1
      have K := Lib.hid (po.read_o sq 1 rfl HIN.out (HGO.out.reads hq4 h8))
      rw [h8] at K
      have NZ := Lib.hid (show nzA D.st (q + 1) = nzA D.st q + nz (D.st q).bs from rfl)
      have HN4 := Lib.hid (nzA_le HBY.out (q + 1) (by omega))
      have IB := Lib.hid hIB
      clear hIB
      generalize (D.st q).bs = BL at K NZ IB h8
      clear sq
      go_wp2_with fail
      refine K.out.mono ?_
      rintro r w8 ⟨B8, c8, rfl, s8⟩
      have S8 := Lib.hid (show St w4 None w8 (DvL a 4 2 bp D ++ (EngX e b g mb a.d mp C 0 m s ++ [ArrR wb 3 201 (fun i => .int .i64 (had i)), LisR 5 1 (.slice B8 8 c8) 8 (po.bys BL)])) from s8)
      clear s8 K
      go_wp2_with fail
      go_loopw [18, 22] (fun wr i wx => ∃ (p v : Nat), p ≤ 8 ∧ v ≤ 40 ∧ i = .int .i64 (p : Int) ∧ wr = .int .i64 (v : Int) ∧ u + nz (BL.take p) = v ∧ St w4 None wx (DvL a 4 2 bp D ++ (EngX e b g mb a.d mp C 0 m s ++ [ArrR wb 3 201 (fun i => .int .i64 (had i)), LisR 5 1 (.slice B8 8 c8) 8 (po.bys BL)]))) (fun _ i _ => 8 - (intOf i).toNat)
      case atStart => exact ⟨0, u, by omega, by omega, rfl, rfl, by simp [nz], S8.out⟩
      case round =>
      clear S8
      obtain ⟨p, v, hp, hv40, rfl, rfl, hv, sp⟩ := hrel
      have HV := Lib.hid hv
      clear hv
      by_cases hp8 : p < 8
      · have z2 : decide ((p : Int) < 8) = true := decide_eq_true (by omega)
        obtain ⟨x, hx⟩ : ∃ x, BL[p]? = some x := ⟨_, List.getElem?_eq_getElem (by omega)⟩
        obtain ⟨gb, go_, rfl, gc⟩ := (sp.lis 12 rfl).reads.2.resolve_left (by omega)
        have g0 := gc p (.int .u8 x) (by unfold po.bys; rw [List.getElem?_map, hx]; rfl)
        have SP := Lib.hid sp
        have HX := Lib.hid hx
        have HNZ := Lib.hid (nz_step hx)
        have HVB := Lib.hid (show nz (BL.take (p + 1)) ≤ 8 from Nat.le_trans (nz_le _) (by rw [List.length_take]; omega))
        clear sp gc hx
        by_cases h0 : x = 0
        · have zx : (x != 0) = false := by simp [h0]
          have HN := Lib.hid (show u + nz (BL.take (p + 1)) = v by
            rw [HNZ.out, if_pos h0]; exact HV.out)
          clear h0
          go_wp2_with fail
          go_roundw
          case rel => exact ⟨p + 1, v, by omega, by omega, by go_num, rfl, HN.out, SP.out⟩
          case measure => simp [intOf]; omega
        · have zx : (x != 0) = true := by simp [h0]
          have HP := Lib.hid (show 2 ≤ p ∧ p ≤ 6 by
            by_cases e : p < 2 ∨ 6 < p
            · have := IB.out.2 p hp8 e
              rw [HX.out] at this
              injection this with this
              exact absurd this h0
            · omega)
          have d1 : decide ((p : Int) < 2) = false := decide_eq_false (by have := HP.out; omega)
          have d2 : decide ((6 : Int) < (p : Int)) = false := decide_eq_false (by have := HP.out; omega)
          have HN := Lib.hid (show u + nz (BL.take (p + 1)) = v + 1 by
            rw [HNZ.out, if_neg h0]; have := HV.out; omega)
          have hv9 : v + 1 ≤ 40 := by have := HN.out; have := HVB.out; omega
          clear h0
          go_wp2_with fail
          go_roundw
          case rel => exact ⟨p + 1, v + 1, by omega, by omega, by go_num, by go_num, HN.out, SP.out⟩
          case measure => simp [intOf]; omega
      · obtain rfl : p = 8 := by omega
        have HN := Lib.hid (show nzA D.st (q + 1) = v by
          have := HV.out
          rw [List.take_of_length_le (by omega)] at this
          rw [NZ.out, HU.out]; exact this)
        have hv9 : v ≤ 32 := by have := HN4.out; have := HN.out; omega
        have S9 := Lib.hid (show St w4 None _ (DvL a 4 2 bp D ++ (EngX e b g mb a.d mp C 0 m s ++ [ArrR wb 3 201 (fun i => .int .i64 (had i))])) from sp.take 12)
        clear sp
        go_wp2_with fail
        go_roundw
        case rel => (repeat apply Exists.intro); exact ⟨⟨q + 1, v, by omega, by omega, by go_num, rfl, HN.out, S9.out⟩, rfl⟩
        case measure => simp [intOf]; omega
    · obtain rfl : q = 4 := by omega
      have HBD := Lib.hid (HSH.out.bd (Nat.le_refl 200))
      have HW := Lib.hid (show (u : Int) ≤ had 200 by
        have h1 := nzA_all HBY.out
        have h2 := HU.out
        have h3 := HBD.out
        omega)
      have SQ := Lib.hid sq
      clear sq
      go_wp2_with fail
      go_loopw [23] (fun x wx => ∃ i : Nat, i ≤ 208 ∧ x = .int .i64 (i : Int) ∧ St w4 None wx (DvL a 4 2 bp D ++ (EngX e b g mb a.d mp C 0 m s ++ [ArrR wb 3 201 (fun i => .int .i64 (had i))]))) (fun x _ => 208 - (intOf x).toNat)
      case atStart => exact ⟨0, by omega, rfl, SQ.out⟩
      case round =>
      clear SQ
      obtain ⟨i, hi, rfl, si⟩ := hrel
      have SI := Lib.hid si
      clear si
      by_cases hi2 : i < 200
      · have z1 : decide ((i : Int) < 200) = true := decide_eq_true (by omega)
        go_wp2_with fail
        go_loopw [24] (fun x wx => ∃ j : Nat, i ≤ j ∧ j ≤ 211 ∧ x = .int .i64 (j : Int) ∧ St w4 None wx (DvL a 4 2 bp D ++ (EngX e b g mb a.d mp C 0 m s ++ [ArrR wb 3 201 (fun i => .int .i64 (had i))]))) (fun x _ => 211 - (intOf x).toNat)
        case atStart => exact ⟨i, by omega, by omega, rfl, SI.out⟩
        case round =>
        clear SI
        obtain ⟨j, hij, hj, rfl, sj⟩ := hrel
        by_cases hj2 : j ≤ 200
        · have z2 : decide ((j : Int) ≤ 200) = true := decide_eq_true (by omega)
          obtain ⟨pp, hpp⟩ : ∃ pp : World → Prop, pp = fun W => St w4 None W (DvL a 4 2 bp D ++ (EngX e b g mb a.d mp C 0 m s ++ [ArrR wb 3 201 (fun i => .int .i64 (had i))])) := ⟨_, rfl⟩
          have PU := Lib.hid (fun (u : Within pp) => (show St w4 None u.w (DvL a 4 2 bp D ++ (EngX e b g mb a.d mp C 0 m s ++ [ArrR wb 3 201 (fun i => .int .i64 (had i))])) from Eq.mp (congrFun hpp u.w) u.h))
          have PI := Lib.hid (fun (W : World) (h : St w4 None W (DvL a 4 2 bp D ++ (EngX e b g mb a.d mp C 0 m s ++ [ArrR wb 3 201 (fun i => .int .i64 (had i))]))) => (show pp W from Eq.mpr (congrFun hpp W) h))
          haveI : Nonempty (Within pp) := ⟨⟨_, PI.out _ sj⟩⟩
          obtain ⟨hj_, ehj⟩ : ∃ z, had j = z := ⟨_, rfl⟩
          obtain ⟨hi_, ehi⟩ : ∃ z, had i = z := ⟨_, rfl⟩
          have c1 : ∀ u : Within pp, u.w.cell? ⟨wb, j, none⟩ = some (.int .i64 hj_) := fun u => by rw [← ehj]; exact (PU.out u).arr_cell 11 rfl (by omega)
          have c2 : ∀ u : Within pp, u.w.cell? ⟨wb, i, none⟩ = some (.int .i64 hi_) := fun u => by rw [← ehi]; exact (PU.out u).arr_cell 11 rfl (by omega)
          obtain ⟨ib2, off2, rfl, -, -, -, -⟩ := AT.out _ (below_then HB4.out sj.below) (by omega)
          have c3 : ∀ u : Within pp, u.w.cell? ⟨ib2, off2 + 2, none⟩ = some (.int .u64 (C.B 0)) := fun u => by
            obtain ⟨_, _, e, _, _, h2, _⟩ := AT.out _ (below_then HB4.out (PU.out u).below) (by omega)
            injection e with e; injection e with e1 e2; subst e1; subst e2
            simpa using h2
          have c4 : ∀ u : Within pp, u.w.cell? ⟨ib2, off2 + 3, none⟩ = some (.int .u64 (C.P 0)) := fun u => by
            obtain ⟨_, _, e, _, _, _, h2⟩ := AT.out _ (below_then HB4.out (PU.out u).below) (by omega)
            injection e with e; injection e with e1 e2; subst e1; subst e2
            simpa using h2
          have hmo := HSH.out.mono (i := i) (j - i) (by omega)
          rw [show i + (j - i) = j by omega, ehj, ehi] at hmo
          have b1 := HSH.out.bd (i := j) (by omega)
          have b2 := HSH.out.bd (i := i) (by omega)
          rw [ehj] at b1
          rw [ehi] at b2
          have hfin := HSH.out.fin HC.out hij hj2
          rw [ehj, ehi] at hfin
          obtain ⟨dd, hdd⟩ : ∃ dd : Nat, (j : Int) - (i : Int) = (dd : Int) := ⟨j - i, by omega⟩
          obtain ⟨ee, hee⟩ : ∃ ee : Nat, hj_ - hi_ = (ee : Int) := ⟨(hj_ - hi_).toNat, by omega⟩
          rw [hdd, hee] at hfin
          have HM := Lib.hid (fun wz => bs.rmost_any (C.B 0) (C.P 0) (dd : Int) wz (HC.out.share 0 (by have := HC.out.n1; omega)) (by omega) (by omega))
          have w1' : IntKind.i64.wrap ((j : Int) - (i : Int)) = (dd : Int) := by rw [hdd]; exact IntWalk.i64_in _ ⟨by omega, by omega⟩
          have w2' : IntKind.u64.wrap (dd : Int) = (dd : Int) := IntWalk.u64_in _ ⟨by omega, by omega⟩
          have w3' : IntKind.i64.wrap (hj_ - hi_) = (ee : Int) := by rw [hee]; exact IntWalk.i64_in _ ⟨by omega, by omega⟩
          have w4' : IntKind.u64.wrap (ee : Int) = (ee : Int) := IntWalk.u64_in _ ⟨by omega, by omega⟩
          have df : decide (bs.mst (C.B 0) (C.P 0) (dd : Int) < (ee : Int)) = false := decide_eq_false (by omega)
          have x1 : (0 : Int) ≤ (j : Int) := by omega
          have x2 : (j : Int) < 201 := by omega
          have x3 : (0 : Int) ≤ (i : Int) := by omega
          have x4 : (i : Int) < 201 := by omega
          have x5 : (0 : Int) < (n : Int) := by omega
          have SJ := Lib.hid (PI.out _ sj.drew)
          clear sj hfin hmo b1 b2 hdd hee ehj ehi hpp
          go_wp2_with fail
          refine wp_region_in pp (by kernel_rfl) (by kernel_rfl) SJ.out ?_
          repeat (go_big_quiet_step ((go_at_call 29; exact in_call (p := pp) ((looks (HM.out _) (PU.out ⟨_, Within.h _⟩)).mono (fun e w' h => ⟨h.1, PI.out _ h.2⟩)))))
          refine wpQuiet_nil ?_
          rintro _ ⟨⟨wq, sq⟩, rfl⟩
          have SQ := Lib.hid (PU.out ⟨_, sq⟩)
          clear c1 c2 c3 c4
          go_wp2_with fail
          go_roundw
          case rel => exact ⟨j + 11, by omega, by omega, by go_num, SQ.out⟩
          case measure => simp [intOf]; omega
        · have z2 : decide ((j : Int) ≤ 200) = false := decide_eq_false (by omega)
          have SJ := Lib.hid sj
          clear sj
          go_wp2_with fail
          go_roundw
          case rel => exact ⟨i + 9, by omega, by go_num, SJ.out⟩
          case measure => simp [intOf]; omega
      · have z1 : decide ((i : Int) < 200) = false := decide_eq_false (by omega)
        obtain ⟨hl, ehl⟩ : ∃ z, had 200 = z := ⟨_, rfl⟩
        have c1 := SI.out.arr_cell 11 rfl (k := 200) (by omega)
        have hw := HW.out
        rw [ehl] at c1 hw
        have df : decide ((u : Int) ≤ hl) = true := decide_eq_true hw
        have DN := Lib.hid (below_then HB4.out SI.out.below)
        clear hw ehl
        go_wp2_with fail
        go_ret
        exact ⟨rfl, DN.out⟩

set_option maxRecDepth 100000 in
theorem lifted (os : Os) (started : os.Started) (H : Type) (enc : TypeId × Value → H) :
    ReturnsInHanded {} Tryz.checked os 4 .any (Rows.engineStealsSpec.pre6 enc Tryz.prog Tryz.f4 Rows.engineStealsRow.domain false) (Rows.engineStealsSpec.post enc Tryz.prog Tryz.f4 false true false false) := by
  refine law_lifted (C := Tryz.checked) (tb := 4) own started (by kernel_rfl) Tryz.func4
    (ChangeSpec.witness6 (enc := enc) (C := Tryz.checked) false ⟨#[], #[.slice none 0 0, .slice none 0 0, .slice none 0 0], []⟩ 8 (by kernel_rfl) (by kernel_rfl) (by kernel_rfl) (by kernel_rfl)) laid (by kernel_rfl) (by kernel_rfl) Tryz.underlying4 rfl ?_
  intro W base args ds ps hval0 hA0 hlt
  have hval : ∀ (j : Nat) t v, Tryz.f4.params[j]? = some t → args[j]? = some v → Value.okWide Tryz.prog W .any base t v := hval0
  have hA : DataW.TrodAll enc Tryz.prog W 0 (fun _ => true) true Tryz.f4.params.toList args.toList ds ps := hA0
  clear hA0 hval0
  rw [Tryz.params4] at hA hval
  obtain ⟨v0, vs0, d0, ds0, p0, q0, hargs, rfl, rfl, h0, r0⟩ := trodAll_cons hA
  obtain ⟨v1, vs1, d1, ds1, p1, q1, rfl, rfl, rfl, h1, r1⟩ := trodAll_cons r0
  obtain ⟨v2, vs2, d2, ds2, p2, q2, rfl, rfl, rfl, h2, r2⟩ := trodAll_cons r1
  obtain ⟨rfl, rfl, rfl⟩ := trodAll_nil r2
  obtain rfl : args = #[v0, v1, v2] := by cases args; simp_all
  obtain ⟨A0, n0, cap0, V0, rfl, le0, mx0, rd0, lf0⟩ := open_slice_spots (m := 4) (d := 20) (l := [(0, 3), (1, 3), (2, 34), (3, 34)]) Tryz.underlying22 (by kernel_rfl) (by decide) (by kernel_rfl) (hval 0 22 v0 rfl rfl) h0
  have f0_0 := fun j hj => leaf_int Tryz.underlying3 (lf0 0 3 (by simp) j hj)
  have f0_1 := fun j hj => leaf_int Tryz.underlying3 (lf0 1 3 (by simp) j hj)
  have f0_2 := fun j hj => leaf_int Tryz.underlying34 (lf0 2 34 (by simp) j hj)
  have f0_3 := fun j hj => leaf_int Tryz.underlying34 (lf0 3 34 (by simp) j hj)
  obtain ⟨A1, n1, cap1, f1, rfl, le1, mx1, wf1, rd1⟩ := open_slice_ints Tryz.underlying62 Tryz.underlying5 (by kernel_rfl) (hval 1 62 v1 rfl rfl) h1
  obtain ⟨A2, n2, cap2, f2, rfl, le2, mx2, wf2, rd2⟩ := open_slice_ints Tryz.underlying71 Tryz.underlying72 (by kernel_rfl) (hval 2 71 v2 rfl rfl) h2
  refine ⟨⟨rfl, rfl, rfl⟩, ?_⟩
  exact walk A0 n0 cap0 V0 A1 n1 cap1 f1 A2 n2 cap2 f2 W (by omega) (by omega) (by omega) rd0 (bs.mvOf (ints f0_0) (ints f0_1) (ints f0_2) (ints f0_3)) rd1 wf1 rd2 wf2

theorem over : Rows.engineStealsRow.holds Tryz.pinned (OpenSpec.ofChange Rows.engineStealsSpec) :=
  OpenClaim.holds_of_wide 4 Tryz.f4 rfl rfl rfl rfl rfl rfl rfl ⟨rfl, rfl, rfl, rfl, rfl⟩ rfl rfl rfl rfl rfl (by kernel_rfl) Tryz.func4 (by kernel_rfl)
    (of_decide_eq_true (by kernel_rfl)) (by unfold Func.isWrapper; first | (rw [if_pos (by decide +kernel)]; kernel_rfl) | (rw [if_neg (by decide +kernel)]; exact ⟨rfl, rfl⟩))
    (fun os started H enc _ => lifted os started H enc)
theorem proved : Rows.EngineStealsSaid := over
#print axioms proved
end Go.Proofs.YtdjhpdacglojaaaGreat.engineSteals
