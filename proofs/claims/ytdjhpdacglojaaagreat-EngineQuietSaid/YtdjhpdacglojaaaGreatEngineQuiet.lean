/-
  For every number of slots EngineQuiet answers true, and changes nothing: made quiet an engine has no descriptor, it writes no more of it, and the request comes out as the device's error when it is reaped. No condition.
-/
import Derived.Test.YtdjhpdacglojaaaGreatRows
import Derived.Test.YtdjhpdacglojaaaGreatFr
import Derived.Test.YtdjhpdacglojaaaGreatEngJ
namespace Go.Proofs.YtdjhpdacglojaaaGreat.engineQuiet
open Go.ChangeShapes Go.WideShapes Go.ChangeAt Go.RowKit
set_option linter.unusedVariables false
theorem own : ownKnob Tryz.prog.godebug = none := by kernel_rfl
theorem laid : laidOutB Tryz.prog = true := by kernel_rfl
set_option maxRecDepth 100000
set_option maxHeartbeats 4000000
def rq : Rq := ⟨1, 0, 90, 0, 0, 1, 0, 8, false, false, false, false⟩
theorem bytes : ∀ k, k < 8 → ((((wrS (egS 4) 0 rq.frm.toNat ((List.range k).map fun _ => 7)) 0).bs.drop (0 : Int).toNat).take (8 : Int).toNat) = List.replicate k 7 ++ List.replicate (8 - k) 0 := by decide
theorem byte_at : ∀ k, k < 8 → ∀ i, i < 8 → (List.replicate k (7 : Int) ++ List.replicate (8 - k) 0)[i]? = some (if i < k then 7 else 0) := by decide
theorem idle_c2 {w : World} {e b mb : Nat} {id : Int} {a : Da} (h : Blk w e 151 (engV a.d b mb id idleV)) : Calls Tryz.prog 17 #[ptrV e] w fun r w' => r = .returned (.agg #[.int .i64 (-1), .int .i64 0, .int .i64 0]) ∧ Below w.heap.size w w' := estate_c (m := idleV) h
theorem walk (x : Int) (w : World) (bx : 0 ≤ x ∧ x ≤ 255) :
    Calls Tryz.prog 6 #[.int .u8 x] w fun r w' => r = .returned (.bool true) ∧ Below w.heap.size w w' := by
  obtain ⟨C, J, hC, hn, hph, hV, hJ0, hJok, hJs, hJe⟩ := wchain
  have l0 := egS_len 4 0 (by omega)
  have hlen : ((egS 4 0).bs.length : Int) = 8 := by rw [l0.1]; rfl
  have hgen : (egS 4 0).gen = 1 := l0.2.1
  have hown : (egS 4 0).owner = 1 := l0.2.2.1
  obtain ⟨D1, hP1, O1⟩ := one_sub (i := 0) (r := rq) (c := 5) (stt := 0) (bad := false) (egI (k := 4)) rfl (by omega) rfl hgen.symm hown (by rw [hlen]; decide) ⟨rfl, rfl, rfl⟩ (by show (5 : Int) < 90; omega)
  rw [hlen] at hP1
  have hz0 : po.SizeP 4 (Dv.new (egS 4) 5).st 0 1 8 0 := Or.inr ⟨0, by omega, rfl, by show (egS 4 0).owner ≠ 0; omega, hgen, hlen.symm, rfl⟩
  have ho0 : po.OwnerP 4 (Dv.new (egS 4) 5).st 0 1 1 (egS 4 0).refs 0 := Or.inr ⟨0, by omega, rfl, by show (egS 4 0).owner ≠ 0; omega, hgen, hown.symm, rfl, rfl⟩
  have HP1 := Lib.hid hP1
  have HZ0 := Lib.hid hz0
  have HO0 := Lib.hid ho0
  have HO1 := Lib.hid O1
  have HC := Lib.hid hC
  have HJ0 := Lib.hid hJ0
  have HJok := Lib.hid hJok
  have HJs := Lib.hid hJs
  have HJe := Lib.hid hJe
  obtain ⟨m, hm⟩ : ∃ m, x % 7 = m := ⟨_, rfl⟩
  have cm : Int.tmod x 7 = m := by rw [← hm]; exact Int.tmod_eq_emod_of_nonneg (by omega)
  have m0 : 0 ≤ m := by omega
  have m1 : m < 7 := by omega
  obtain ⟨kn, hkn⟩ : ∃ kn : Nat, 1 + m = (kn : Int) := ⟨(1 + m).toNat, by omega⟩
  have cs : IntKind.i64.wrap (1 + m) = (kn : Int) := by rw [← hkn]; exact IntWalk.i64_in _ ⟨by omega, by omega⟩
  have KN := Lib.hid (show 1 ≤ kn ∧ kn < 8 by omega)
  have AW := Lib.hid (awake24_c w)
  have KB := Lib.hid (fun (W : World) => (show Calls Tryz.prog 10 #[.slice (some ⟨W.heap.size + 1, 0, none⟩) 1 1] ((W.alloc (.cells #[.int .i64 0, .int .i64 0, .int .u64 9, .int .u64 9] 78)).alloc (.cells #[.int .i64 0, .int .i64 0, .int .u64 9, .int .u64 9] 78)) _ from
    both24_n (cap := 1) ((W.alloc (.cells #[.int .i64 0, .int .i64 0, .int .u64 9, .int .u64 9] 78)).alloc (.cells #[.int .i64 0, .int .i64 0, .int .u64 9, .int .u64 9] 78)) hC hn hph (by
      have RD := v1_rd (W.alloc (.cells #[.int .i64 0, .int .i64 0, .int .u64 9, .int .u64 9] 78)) 78 0 0 9 9
      rw [show (W.alloc (.cells #[.int .i64 0, .int .i64 0, .int .u64 9, .int .u64 9] 78)).heap.size = W.heap.size + 1 by simp] at RD
      exact RD) hV))
  clear hP1 hz0 ho0 O1 l0 hlen hgen hown hC hn hph hV hJ0 hJok hJs hJe hm hkn
  go_enter Tryz.func6, Tryz.ntmps6
  go_wp2_with fail
  refine AW.out.mono ?_
  rintro r w1 ⟨rfl, hb1⟩
  have HB1 := Lib.hid hb1
  have s1 : St w1 None _ [_] := (St.begin w1).box 78 #[.int .i64 0, .int .i64 0, .int .u64 9, .int .u64 9]
  obtain ⟨q0, q1, q2, q3⟩ := (s1.blk 0 rfl).four
  clear AW hb1 s1
  go_wp2_with fail
  refine (KB.out w1).mono ?_
  rintro r w2 ⟨a, bp, e, b, g, mb, mp, r1, r2, rfl, s2⟩
  have BB := Lib.hid (below_then HB1.out ((((St.begin w1).alloc (.cells #[.int .i64 0, .int .i64 0, .int .u64 9, .int .u64 9] 78)).alloc (.cells #[.int .i64 0, .int .i64 0, .int .u64 9, .int .u64 9] 78)).below))
  generalize ((w1.alloc (.cells #[.int .i64 0, .int .i64 0, .int .u64 9, .int .u64 9] 78)).alloc (.cells #[.int .i64 0, .int .i64 0, .int .u64 9, .int .u64 9] 78)) = wb at s2 BB
  have S2 := Lib.hid s2
  have K2 := Lib.hid (equiet_no (eng_blk s2) (by decide))
  clear KB HB1 q0 q1 q2 q3 s2
  go_wp2_with fail
  refine K2.out.mono ?_
  rintro r w3 ⟨rfl, rfl⟩
  have S3 := eng_box S2.out 39 #[.int .i64 0, .int .u64 1]
  rw [List.nil_append] at S3
  obtain ⟨hb, hhb⟩ : ∃ hb, w3.heap.size = hb := ⟨_, rfl⟩
  rw [hhb] at S3
  obtain ⟨x0, x1⟩ := (S3.blk 11 rfl).two
  have K3 := Lib.hid (subD_o S3 egI rq ⟨rfl, rfl, rfl, rfl⟩ (wf_small (by decide) (by decide)) (by decide) (by decide) HZ0.out HO0.out HP1.out)
  unfold rq Rq.req at K3
  clear S3 K2 S2
  go_wp2_with fail
  refine K3.out.mono ?_
  rintro r w4 ⟨rfl, bq, s4⟩
  have K4 := Lib.hid (startW s4 HO1.out.I)
  clear s4 K3 x0 x1
  go_wp2_with fail
  refine K4.out.mono ?_
  rintro r w5 ⟨B6, d6, ids, D2, rfl, -, -, hF, hI2, e1, e2, e3, -, e5, s5'⟩
  obtain ⟨rfl, O2⟩ := HO1.out.start hI2 hF e1 e2 e3 e5
  have S5 := Lib.hid (show St wb None w5 (DvL a 4 2 bq D2 ++ (EngX e b g mb a.d mp C 0 idleV (bs.bs0 0) ++ [BlkR hb 39 #[.int .i64 0, .int .u64 1]])) from s5'.take 12)
  have PP := Lib.hid (show EgP 4 2 1 (egS 4) rq 5 0 0 (fun _ => 7) 0 D2 idleV from Or.inl ⟨rfl, rfl, O2⟩)
  have II := Lib.hid hI2
  clear s5' K4 hF hI2 e1 e2 e3 e5 O2
  go_wp2_with fail
  go_loopw [11] (fun i wr => ∃ (j : Nat) (D : Dv) (m : Mv) (s : bs.BS), j ≤ kn ∧ i = .int .i64 j ∧ EgP 4 2 1 (egS 4) rq 5 0 0 (fun _ => 7) j D m ∧ DvI 4 2 1 D ∧ m.ok ∧ J j s ∧ St wb None wr (DvL a 4 2 bq D ++ (EngX e b g mb a.d mp C 0 m s ++ [BlkR hb 39 #[.int .i64 0, .int .u64 1]]))) (fun i _ => 8 - (intOf i).toNat)
  case atStart => exact ⟨0, D2, idleV, _, by omega, rfl, PP.out, II.out, idle_ok, HJ0.out, S5.out⟩
  case round =>
    clear PP II S5
    obtain ⟨k9, k8⟩ := KN.out
    obtain ⟨j, D, m9, s, hj, rfl, hP, hI, hmk, hJ, sr⟩ := hrel
    by_cases hlt : j < kn
    · have z1 : decide ((j : Int) < (kn : Int)) = true := decide_eq_true (by omega)
      have cw : IntKind.u64.wrap (j : Int) = j := IntWalk.u64_in _ ⟨by omega, by omega⟩
      have K5 := Lib.hid (eslot_o sr hI hmk HC.out (HJok.out j s hJ) (by omega) (now := j) (by omega) (A := none) (cp := 0) (l := []) (by simp) (fun W D m s h => ⟨rfl, Or.inl rfl⟩) 7)
      have HP := Lib.hid hP
      have HJ := Lib.hid hJ
      clear sr hI hmk hP hJ
      go_wp2_with fail
      refine K5.out.mono ?_
      rintro r w6 ⟨v, f, D3, m3, s', rfl, hS, hI3, hm3, s6⟩
      obtain ⟨sn, hR, hJn⟩ := HJs.out j s HJ.out (by omega)
      obtain ⟨rfl, rfl, rfl, P3⟩ := HP.out.step (show (j : Int) < 8 by omega) rfl (by omega) rfl (by decide) (by decide) hR hS hI3
      have P3 := Lib.hid P3
      have I3 := Lib.hid hI3
      have M3 := Lib.hid hm3
      have J3 := Lib.hid hJn
      have S6 := Lib.hid s6
      clear K5 HP HJ hS hI3 hm3 s6 hR hJn
      go_wp2_with fail
      go_roundw
      case rel => exact ⟨j + 1, D3, m3, _, by omega, by go_num, P3.out, I3.out, M3.out, J3.out, S6.out⟩
      case measure => simp [intOf]; omega
    · obtain rfl : j = kn := by omega
      obtain ⟨rfl, O3⟩ : m9 = ⟨0, (j : Int), 8⟩ ∧ OneF 4 2 1 (wrS (egS 4) 0 rq.frm.toNat ((List.range j).map fun _ => 7)) rq 5 0 D 1 1 0 false false false 0 [] := by
        rcases hP with ⟨e, -⟩ | ⟨-, -, h1, h2⟩ | ⟨-, e, -⟩
        · omega
        · exact ⟨h1, h2⟩
        · have e : (j : Int) = 8 := e
          omega
      have z1 : decide ((j : Int) < (j : Int)) = false := decide_eq_false (by omega)
      obtain ⟨sn, hE⟩ := HJe.out j s hJ (by omega)
      have HE := Lib.hid hE
      have JO := Lib.hid (HJok.out j s hJ)
      have HO3 := Lib.hid O3
      have K5 := Lib.hid (equiet_yes sr hI hmk (by show (0 : Int) ≤ 0; omega))
      have BYT := Lib.hid (bytes j k8)
      have GEN := Lib.hid (show (wrS (egS 4) 0 rq.frm.toNat ((List.range j).map fun _ => 7) 0).gen = 1 from rfl)
      have OWN := Lib.hid (show (wrS (egS 4) 0 rq.frm.toNat ((List.range j).map fun _ => 7) 0).owner ≠ 0 by show (1 : Int) ≠ 0; omega)
      have LEN := Lib.hid (show (wrS (egS 4) 0 rq.frm.toNat ((List.range j).map fun _ => 7) 0).bs.length = 8 by
        have h : ∀ k, k < 8 → (wrS (egS 4) 0 rq.frm.toNat ((List.range k).map fun _ => 7) 0).bs.length = 8 := by decide
        exact h j k8)
      generalize wrS (egS 4) 0 rq.frm.toNat ((List.range j).map fun _ => 7) = st1 at HO3 BYT GEN OWN LEN
      clear sr hI hmk hP hJ O3 hE
      go_wp2_with fail
      refine K5.out.mono ?_
      rintro r w6 ⟨D3, rfl, ⟨f', g', k', hF, hk', rfl⟩, hI3, s6⟩
      obtain ⟨rfl, O4⟩ := HO3.out.fin true ⟨by omega, by omega⟩ hF hk' hI3
      generalize D.finD 0 g' k' true = D4 at *
      have HO4 := Lib.hid O4
      have K6 := Lib.hid (equiet_no (eng_blk s6) (by decide))
      have K7 := Lib.hid (idle_c2 (eng_blk s6))
      have S6 := Lib.hid s6
      clear K5 hF hk' hI3 s6 O4 HO3
      go_wp2_with fail
      refine K6.out.mono ?_
      rintro r w7 ⟨rfl, rfl⟩
      clear K6
      go_wp2_with fail
      refine K7.out.mono ?_
      rintro r w8 ⟨rfl, hb8⟩
      have s8 := S6.out.stay hb8
      have K8 := Lib.hid (eslot_o s8 HO4.out.I idle_ok HC.out JO.out (by omega) (now := 10) (by omega) (A := none) (cp := 0) (l := []) (by simp) (fun W D m s h => ⟨rfl, Or.inl rfl⟩) 9)
      clear K7 hb8 S6 s8
      go_wp2_with fail
      refine K8.out.mono ?_
      rintro r w9 ⟨v, f, D5, m5, s5', rfl, hS, hI5, hm5, s9⟩
      obtain ⟨rfl, rfl, rfl, rfl, rfl⟩ := eslot_none (HO4.out.htaken.trans HO4.out.hput.symm) HE.out hS
      obtain ⟨x0, x1⟩ := (s9.blk 11 rfl).two
      have hr := HO4.out.reads (i := 0) (a := 0) (m := 8) (by omega) OWN.out (by rw [LEN.out]; refine ⟨by omega, ?_, by omega, ?_⟩ <;> decide)
      rw [BYT.out, GEN.out] at hr
      have K9 := Lib.hid (po.read_o s9 1 rfl HO4.out.I.c.pok hr)
      clear K8 hS hI5 hm5 s9 hr
      obtain ⟨BL, hBL⟩ : ∃ BL, List.replicate j (7 : Int) ++ List.replicate (8 - j) 0 = BL := ⟨_, rfl⟩
      have BAT := Lib.hid (show ∀ i, i < 8 → BL[i]? = some (if i < j then 7 else 0) by rw [← hBL]; exact byte_at j k8)
      have BLE := Lib.hid (show BL.length = 8 by rw [← hBL]; simp; omega)
      rw [hBL] at K9
      clear hBL
      rw [BLE.out] at K9
      go_wp2_with fail
      refine K9.out.mono ?_
      rintro r w10 ⟨B8, c8, rfl, s10⟩
      have S10 := Lib.hid (show St wb None w10 (DvL a 4 2 bq D5 ++ (EngX e b g mb a.d mp C 0 idleV s5' ++ [BlkR hb 39 #[.int .i64 0, .int .u64 1], LisR 5 1 (.slice B8 8 c8) 8 (po.bys BL)])) from s10)
      clear s10 K9 x0 x1
      go_wp2_with fail
      go_loopw [16] (fun i wr => ∃ q : Nat, q ≤ 8 ∧ i = .int .i64 q ∧ St wb None wr (DvL a 4 2 bq D5 ++ (EngX e b g mb a.d mp C 0 idleV s5' ++ [BlkR hb 39 #[.int .i64 0, .int .u64 1], LisR 5 1 (.slice B8 8 c8) 8 (po.bys BL)]))) (fun i _ => 8 - (intOf i).toNat)
      case atStart => exact ⟨0, by omega, rfl, S10.out⟩
      case round =>
        clear S10
        obtain ⟨q, hq, rfl, sr⟩ := hrel
        by_cases hlt : q < 8
        · have z2 : decide ((q : Int) < 8) = true := decide_eq_true (by omega)
          obtain ⟨gb, go_, rfl, gc⟩ := (sr.lis 12 rfl).reads.2.resolve_left (by omega)
          have g0 := gc q _ (show (po.bys BL)[q]? = some (.int .u8 (if q < j then 7 else 0)) by unfold po.bys; rw [List.getElem?_map, BAT.out q hlt]; rfl)
          have SR := Lib.hid sr
          clear sr gc
          by_cases hqj : q < j
          · have z3 : decide ((q : Int) < (j : Int)) = true := decide_eq_true (by omega)
            rw [if_pos hqj] at g0
            go_wp2_with fail
            go_roundw
            case rel => exact ⟨q + 1, by omega, by go_num, SR.out⟩
            case measure => simp [intOf]; omega
          · have z3 : decide ((q : Int) < (j : Int)) = false := decide_eq_false (by omega)
            rw [if_neg hqj] at g0
            go_wp2_with fail
            go_roundw
            case rel => exact ⟨q + 1, by omega, by go_num, SR.out⟩
            case measure => simp [intOf]; omega
        · obtain rfl : q = 8 := by omega
          have K10 := Lib.hid (reapW sr HO4.out.I)
          clear sr
          go_wp2_with fail
          refine K10.out.mono ?_
          rintro r w11 ⟨d6, f6, g6, k6, q6, st6, rfl, hP6, hk6, hI6, hK6, s11⟩
          obtain ⟨rfl, hreq, O5⟩ := HO4.out.reap hP6 hk6 hI6 hK6
          rw [if_pos rfl, hreq, show rq.id = 1 from rfl]
          generalize Dv.rpD _ _ _ _ _ _ _ = D6 at *
          have O5 : OneF 4 2 1 st1 rq 5 0 D6 1 1 1 true true true 2 [⟨1, 2, 2⟩] := O5
          have K11 := Lib.hid (goW (u := 20) s11 O5.I (by omega))
          have HO5 := Lib.hid O5
          clear s11 K10 hP6 hk6 hI6 hK6 O5 hreq
          go_wp2_with fail
          refine K11.out.mono ?_
          rintro r w12 ⟨B7, m7, d7, o, D7, rfl, ho, hl, -, hI7, hG7, -, -, s12⟩
          obtain ⟨hg, rfl, O7⟩ := HO5.out.go (by omega) (by omega) ho hI7 hG7
          rw [hg]
          obtain rfl : m7 = 1 := hl.symm
          obtain ⟨fb, fo, rfl, fc⟩ := (s12.lis 13 rfl).reads.2.resolve_left (by omega)
          have f0 : w12.cell? ⟨fb, fo, none⟩ = some (.int .i64 1) := fc 0 _ rfl
          have f1 : w12.cell? ⟨fb, fo + 1, none⟩ = some (.int .i64 2) := fc 1 _ rfl
          have f2 : w12.cell? ⟨fb, fo + 2, none⟩ = some (.int .i64 2) := fc 2 _ rfl
          have DN := Lib.hid (below_then BB.out s12.below)
          clear s12 K11 ho hg hl hI7 hG7 O7 HO5 fc
          go_wp2_with fail
          go_ret
          exact ⟨rfl, DN.out⟩

set_option maxRecDepth 100000 in
theorem lifted (os : Os) (started : os.Started) (H : Type) (enc : TypeId × Value → H) :
    ReturnsInHanded {} Tryz.checked os 6 .any (Rows.engineQuietSpec.pre6 enc Tryz.prog Tryz.f6 Rows.engineQuietRow.domain false) (Rows.engineQuietSpec.post enc Tryz.prog Tryz.f6 false true false false) := by
  refine law_lifted (C := Tryz.checked) (tb := 4) own started (by kernel_rfl) Tryz.func6
    (ChangeSpec.witness6 (enc := enc) (C := Tryz.checked) false ⟨#[], #[.int .u8 0], []⟩ 8 (by kernel_rfl) (by kernel_rfl) (by kernel_rfl) (by kernel_rfl)) laid (by kernel_rfl) (by kernel_rfl) Tryz.underlying4 rfl ?_
  intro W base args ds ps hval0 hA0 hlt
  have hval : ∀ (j : Nat) t v, Tryz.f6.params[j]? = some t → args[j]? = some v → Value.okWide Tryz.prog W .any base t v := hval0
  have hA : DataW.TrodAll enc Tryz.prog W 0 (fun _ => true) true Tryz.f6.params.toList args.toList ds ps := hA0
  clear hA0 hval0
  rw [Tryz.params6] at hA hval
  obtain ⟨v0, vs0, d0, ds0, p0, q0, hargs, rfl, rfl, h0, r0⟩ := trodAll_cons hA
  obtain ⟨rfl, rfl, rfl⟩ := trodAll_nil r0
  obtain rfl : args = #[v0] := by cases args; simp_all
  obtain ⟨a0, rfl, rfl, rfl, w0⟩ := open_int Tryz.underlying5 (hval 0 5 v0 rfl rfl) h0
  refine ⟨⟨rfl, rfl, rfl⟩, ?_⟩
  exact walk a0 W (bounds_u8 w0)

theorem over : Rows.engineQuietRow.holds Tryz.pinned (OpenSpec.ofChange Rows.engineQuietSpec) :=
  OpenClaim.holds_of_wide 6 Tryz.f6 rfl rfl rfl rfl rfl rfl rfl ⟨rfl, rfl, rfl, rfl, rfl⟩ rfl rfl rfl rfl rfl (by kernel_rfl) Tryz.func6 (by kernel_rfl)
    (of_decide_eq_true (by kernel_rfl)) (by unfold Func.isWrapper; first | (rw [if_pos (by decide +kernel)]; kernel_rfl) | (rw [if_neg (by decide +kernel)]; exact ⟨rfl, rfl⟩))
    (fun os started H enc _ => lifted os started H enc)
theorem proved : Rows.EngineQuietSaid := over
#print axioms proved
end Go.Proofs.YtdjhpdacglojaaaGreat.engineQuiet
