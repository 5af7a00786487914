/-
  For every place, length and row of bytes EngineWhole answers true, and changes nothing: with the bus to itself and a share of all an engine writes a piece in as many slots as it has bytes, and finishes it then. No condition.
-/
import Derived.Test.YtdjhpdacglojaaaGreatRows
import Derived.Test.YtdjhpdacglojaaaGreatFr
import Derived.Test.YtdjhpdacglojaaaGreatEngJ
namespace Go.Proofs.YtdjhpdacglojaaaGreat.engineWhole
open Go.ChangeShapes Go.WideShapes Go.ChangeAt Go.RowKit
set_option linter.unusedVariables false
theorem own : ownKnob Tryz.prog.godebug = none := by kernel_rfl
theorem laid : laidOutB Tryz.prog = true := by kernel_rfl
set_option maxRecDepth 100000
set_option maxHeartbeats 4000000
def rq (a z : Nat) : Rq := ⟨1, 0, 90, 0, 2, 1, (a : Int), (z : Int), false, false, false, false⟩
theorem may_rq : ∀ a, a < 8 → ∀ z, z < 9 → 1 ≤ z → a + z ≤ 8 → mayR 8 0 (rq a z) := by decide
/-- What the buffer holds in the end. -/
def bl (a : Nat) (xs : List Int) : List Int := List.replicate a 0 ++ (xs ++ List.replicate (8 - (a + xs.length)) 0)
theorem wr_bs {a : Nat} {xs : List Int} (h : a + xs.length ≤ 8) : (wrS (egS 4) 2 a xs 2).bs = bl a xs := by
  have e : (egS 4 2).bs = List.replicate 8 0 := (egS_len 4 2 (by omega)).2.2.2
  unfold wrS
  rw [po.updB_self]
  dsimp only
  rw [e]
  unfold bl
  rw [List.take_replicate, List.drop_replicate, Nat.min_eq_left (by omega)]
theorem bytes {a : Nat} {xs : List Int} (h : a + xs.length ≤ 8) : ((((wrS (egS 4) 2 a xs) 2).bs.drop (0 : Int).toNat).take (8 : Int).toNat) = bl a xs := by
  rw [wr_bs h]
  show List.take 8 (bl a xs) = bl a xs
  exact List.take_of_length_le (by unfold bl; simp; omega)
theorem bl_len {a : Nat} {xs : List Int} (h : a + xs.length ≤ 8) : (bl a xs).length = 8 := by unfold bl; simp; omega
theorem bl_lo {a : Nat} {xs : List Int} {i : Nat} (h : i < a) : (bl a xs)[i]? = some 0 := by
  unfold bl
  rw [List.getElem?_append_left (by simpa using h), List.getElem?_replicate, if_pos h]
theorem bl_mid {a z : Nat} {f : Nat → Int} {i : Nat} (h : a ≤ i) (h2 : i < a + z) : (bl a ((List.range z).map f))[i]? = some (f (i - a)) := by
  unfold bl
  rw [List.getElem?_append_right (by simpa using h), List.getElem?_append_left (by simp; omega), List.length_replicate, List.getElem?_map, List.getElem?_range (by omega)]
  rfl
theorem bl_hi {a z : Nat} {f : Nat → Int} {i : Nat} (h : a + z ≤ i) (h2 : i < 8) : (bl a ((List.range z).map f))[i]? = some 0 := by
  unfold bl
  rw [List.getElem?_append_right (by simp; omega), List.getElem?_append_right (by simp; omega), List.getElem?_replicate, if_pos (by simp; omega)]
theorem est_c {w : World} {e b mb : Nat} {id no at_ z : Int} {a : Da} (h : Blk w e 151 (engV a.d b mb id ⟨no, at_, z⟩)) : Calls Tryz.prog 17 #[ptrV e] w fun r w' => r = .returned (.agg #[.int .i64 no, .int .i64 at_, .int .i64 z]) ∧ Below w.heap.size w w' := estate_c (m := ⟨no, at_, z⟩) h
theorem tmodN {j n : Nat} (hn : 0 < n) : Int.tmod (j : Int) (n : Int) = ((j % n : Nat) : Int) := by
  rw [Int.tmod_eq_emod_of_nonneg (by omega)]
  first | rfl | exact (Int.natCast_emod j n).symm | exact (Int.ofNat_emod j n).symm
theorem walk (x y : Int) (A : Option Addr) (n cap : Nat) (f : Nat → Int) (w : World) (bx : 0 ≤ x ∧ x ≤ 255) (bY : 0 ≤ y ∧ y ≤ 255) (hn : n ≤ maxLen) (rd : Rd w A n (fun j => .int .u8 (f j))) :
    Calls Tryz.prog 5 #[.int .u8 x, .int .u8 y, .slice A n cap] w fun r w' => r = .returned (.bool true) ∧ Below w.heap.size w w' := by
  unfold maxLen at hn
  obtain ⟨C, J, hC, hn1, hph, hV, hJ0, hJok, hJs, -⟩ := wchain
  obtain ⟨a0, ha0⟩ : ∃ a0 : Nat, x % 8 = (a0 : Int) := ⟨(x % 8).toNat, by omega⟩
  have ha8 : a0 < 8 := by omega
  have ca : Int.tmod x 8 = (a0 : Int) := by rw [← ha0]; exact Int.tmod_eq_emod_of_nonneg (by omega)
  obtain ⟨b0, hb0⟩ : ∃ b0 : Nat, 8 - a0 = b0 := ⟨_, rfl⟩
  have cb : IntKind.i64.wrap (8 - (a0 : Int)) = (b0 : Int) := by rw [show 8 - (a0 : Int) = (b0 : Int) by omega]; exact IntWalk.i64_in _ ⟨by omega, by omega⟩
  have cz : decide ((b0 : Int) = 0) = false := decide_eq_false (by omega)
  have cz1 : decide (b0 = 0) = false := decide_eq_false (by omega)
  have cz2 : ¬ b0 = 0 := by omega
  have cz3 : ¬ (b0 : Int) = 0 := by omega
  have hy0 : 0 ≤ y % (b0 : Int) := Int.emod_nonneg _ (by omega)
  have hy1 : y % (b0 : Int) < b0 := Int.emod_lt_of_pos _ (by omega)
  obtain ⟨m, hm⟩ : ∃ m, y % (b0 : Int) = m := ⟨_, rfl⟩
  rw [hm] at hy0 hy1
  have cm : Int.tmod y (b0 : Int) = m := by rw [← hm]; exact Int.tmod_eq_emod_of_nonneg (by omega)
  obtain ⟨zn, hzn⟩ : ∃ zn : Nat, 1 + m = (zn : Int) := ⟨(1 + m).toNat, by omega⟩
  have cn : IntKind.i64.wrap (1 + m) = (zn : Int) := by rw [← hzn]; exact IntWalk.i64_in _ ⟨by omega, by omega⟩
  have hz1 : 1 ≤ zn := by omega
  have hz8 : a0 + zn ≤ 8 := by omega
  obtain ⟨en, hen⟩ : ∃ en : Nat, a0 + zn = en := ⟨_, rfl⟩
  have ce : IntKind.i64.wrap ((a0 : Int) + (zn : Int)) = (en : Int) := by rw [show (a0 : Int) + (zn : Int) = (en : Int) by omega]; exact IntWalk.i64_in _ ⟨by omega, by omega⟩
  have l0 := egS_len 4 2 (by omega)
  have hlen : ((egS 4 2).bs.length : Int) = 8 := by rw [l0.1]; rfl
  have hgen : (egS 4 2).gen = 1 := l0.2.1
  have hown : (egS 4 2).owner = 1 := l0.2.2.1
  obtain ⟨D1, hP1, O1⟩ := one_sub (i := 2) (r := rq a0 zn) (c := 5) (stt := 0) (bad := false) (egI (k := 4)) rfl (by omega) rfl hgen.symm hown (by rw [hlen]; exact may_rq a0 ha8 zn (by omega) hz1 hz8) ⟨rfl, rfl, rfl⟩ (by show (5 : Int) < 90; omega)
  rw [hlen] at hP1
  have hz0 : po.SizeP 4 (Dv.new (egS 4) 5).st 2 1 8 0 := Or.inr ⟨2, by omega, rfl, by show (egS 4 2).owner ≠ 0; omega, hgen, hlen.symm, rfl⟩
  have ho0 : po.OwnerP 4 (Dv.new (egS 4) 5).st 2 1 1 (egS 4 2).refs 0 := Or.inr ⟨2, by omega, rfl, by show (egS 4 2).owner ≠ 0; omega, hgen, hown.symm, rfl, rfl⟩
  have HP1 := Lib.hid hP1
  have HZ0 := Lib.hid hz0
  have HO0 := Lib.hid ho0
  have HO1 := Lib.hid O1
  have HC := Lib.hid hC
  have HJ0 := Lib.hid hJ0
  have HJok := Lib.hid hJok
  have HJs := Lib.hid hJs
  have RD := Lib.hid rd
  have AZ := Lib.hid (show a0 < 8 ∧ 1 ≤ zn ∧ a0 + zn = en ∧ en ≤ 8 by omega)
  have AW := Lib.hid (awake24_c w)
  have KB := Lib.hid (fun (W : World) => (show Calls Tryz.prog 10 #[.slice (some ⟨W.heap.size + 1, 0, none⟩) 1 1] ((W.alloc (.cells #[.int .i64 0, .int .i64 0, .int .u64 9, .int .u64 9] 78)).alloc (.cells #[.int .i64 0, .int .i64 0, .int .u64 9, .int .u64 9] 78)) _ from
    both24_n (cap := 1) ((W.alloc (.cells #[.int .i64 0, .int .i64 0, .int .u64 9, .int .u64 9] 78)).alloc (.cells #[.int .i64 0, .int .i64 0, .int .u64 9, .int .u64 9] 78)) hC hn1 hph (by
      have RD := v1_rd (W.alloc (.cells #[.int .i64 0, .int .i64 0, .int .u64 9, .int .u64 9] 78)) 78 0 0 9 9
      rw [show (W.alloc (.cells #[.int .i64 0, .int .i64 0, .int .u64 9, .int .u64 9] 78)).heap.size = W.heap.size + 1 by simp] at RD
      exact RD) hV))
  have MM := Lib.hid (fun (W : World) => bs.rbM_yes 0 0 9 9 W ⟨⟨by omega, by omega⟩, ⟨by omega, by omega⟩, ⟨by omega, by omega, by omega⟩⟩)
  clear hP1 hz0 ho0 O1 l0 hlen hgen hown hC hn1 hph hV hJ0 hJok hJs hm hzn ha0 hb0 rd hy0 hy1 ha8 hz1 hz8 hen
  go_enter Tryz.func5, Tryz.ntmps5
  go_wp2_with fail
  refine AW.out.mono ?_
  rintro r w1 ⟨rfl, hb1⟩
  have HB1 := Lib.hid hb1
  have s1 : St w1 None _ [_] := (St.begin w1).box 78 #[.int .i64 0, .int .i64 0, .int .u64 9, .int .u64 9]
  obtain ⟨q0, q1, q2, q3⟩ := (s1.blk 0 rfl).four
  have S1 := Lib.hid (s1.alloc (.cells #[.int .i64 0, .int .i64 0, .int .u64 9, .int .u64 9] 78))
  clear AW hb1 s1
  go_wp2_with fail
  refine (KB.out w1).mono ?_
  rintro r w2 ⟨a, bp, e, b, g, mb, mp, r1, r2, rfl, s2⟩
  have BB := Lib.hid (below_then HB1.out ((((St.begin w1).alloc (.cells #[.int .i64 0, .int .i64 0, .int .u64 9, .int .u64 9] 78)).alloc (.cells #[.int .i64 0, .int .i64 0, .int .u64 9, .int .u64 9] 78)).below))
  generalize ((w1.alloc (.cells #[.int .i64 0, .int .i64 0, .int .u64 9, .int .u64 9] 78)).alloc (.cells #[.int .i64 0, .int .i64 0, .int .u64 9, .int .u64 9] 78)) = wb at s2 BB S1
  clear q0 q1 q2 q3
  obtain ⟨q0, q1, q2, q3⟩ := ((S1.out.stay s2.below).blk 0 rfl).four
  have S2 := Lib.hid s2
  have K2 := Lib.hid (MM.out w2)
  clear KB HB1 s2 S1 MM
  by_cases h0 : n = 0
  · have y1 : decide ((n : Int) = 0) = true := decide_eq_true (by omega)
    go_wp2_with fail
    refine K2.out.mono ?_
    rintro r w3 ⟨rfl, hb3⟩
    have DN := Lib.hid (below_then BB.out (below_then S2.out.below hb3))
    clear hb3 q0 q1 q2 q3 K2 S2
    go_wp2_with fail
    go_ret
    exact ⟨rfl, DN.out⟩
  have y1 : decide ((n : Int) = 0) = false := decide_eq_false (by omega)
  have y2 : decide (n = 0) = false := decide_eq_false (by omega)
  have y3 : ¬ (n : Int) = 0 := by omega
  go_wp2_with fail
  refine K2.out.mono ?_
  rintro r w3 ⟨rfl, hb3⟩
  have K3 := Lib.hid (subD_o (S2.out.stay hb3) egI (rq a0 zn) ⟨rfl, rfl, rfl, rfl⟩ (wf_small (show (-9223372036854775808 : Int) ≤ 1 by omega) (show (1 : Int) ≤ 9223372036854775807 by omega)) (show (0 : Int) ≤ 90 by omega) (show (90 : Int) ≤ 18446744073709551615 by omega) HZ0.out HO0.out HP1.out)
  unfold rq Rq.req at K3
  clear hb3 q0 q1 q2 q3 K2 S2
  go_wp2_with fail
  refine K3.out.mono ?_
  rintro r w4 ⟨rfl, bq, s4⟩
  have K4 := Lib.hid (startW s4 HO1.out.I)
  clear s4 K3
  go_wp2_with fail
  refine K4.out.mono ?_
  rintro r w5 ⟨B6, d6, ids, D2, rfl, -, -, hF, hI2, e1, e2, e3, -, e5, s5'⟩
  obtain ⟨rfl, O2⟩ := HO1.out.start hI2 hF e1 e2 e3 e5
  have S5 := Lib.hid (show St wb None w5 (DvL a 4 2 bq D2 ++ (EngX e b g mb a.d mp C 0 idleV (bs.bs0 0) ++ [])) from s5'.take 11)
  have PP := Lib.hid (show EgP 4 2 1 (egS 4) (rq a0 zn) 5 0 2 (fun j => f (j % n)) 0 D2 idleV from Or.inl ⟨rfl, rfl, O2⟩)
  have II := Lib.hid hI2
  clear s5' K4 hF hI2 e1 e2 e3 e5 O2
  go_wp2_with fail
  go_loopw [15] (fun i wr => ∃ (j : Nat) (D : Dv) (m : Mv) (s : bs.BS), j ≤ zn ∧ i = .int .i64 j ∧ EgP 4 2 1 (egS 4) (rq a0 zn) 5 0 2 (fun j => f (j % n)) j D m ∧ DvI 4 2 1 D ∧ m.ok ∧ J j s ∧ St wb None wr (DvL a 4 2 bq D ++ (EngX e b g mb a.d mp C 0 m s ++ []))) (fun i _ => 9 - (intOf i).toNat)
  case atStart => exact ⟨0, D2, idleV, _, by omega, rfl, PP.out, II.out, idle_ok, HJ0.out, S5.out⟩
  case round =>
    clear PP II S5
    obtain ⟨k8, k1, ke, k9⟩ := AZ.out
    obtain ⟨j, D, m9, s, hj, rfl, hP, hI, hmk, hJ, sr⟩ := hrel
    by_cases hlt : j < zn
    · have z1 : decide ((j : Int) < (zn : Int)) = true := decide_eq_true (by omega)
      have cw : IntKind.u64.wrap (j : Int) = j := IntWalk.u64_in _ ⟨by omega, by omega⟩
      obtain ⟨jn, hjn⟩ : ∃ jn : Nat, j + 1 = jn := ⟨_, rfl⟩
      have cj : IntKind.i64.wrap ((j : Int) + 1) = (jn : Int) := by rw [show (j : Int) + 1 = (jn : Int) by omega]; exact IntWalk.i64_in _ ⟨by omega, by omega⟩
      obtain ⟨q, hq⟩ : ∃ q, j % n = q := ⟨_, rfl⟩
      have hqn : q < n := by rw [← hq]; exact Nat.mod_lt _ (by omega)
      have ct : Int.tmod (j : Int) (n : Int) = (q : Int) := by rw [tmodN (by omega), hq]
      obtain ⟨gb, go_, rfl, -, gc⟩ := (RD.out.below (below_then BB.out sr.below) (Nat.le_refl _)) (by omega)
      have g0 := gc q hqn
      have K5 := Lib.hid (eslot_o sr hI hmk HC.out (HJok.out j s hJ) (by omega) (now := j) (by omega) (A := none) (cp := 0) (l := []) (by simp) (fun W D m s h => ⟨rfl, Or.inl rfl⟩) (f q))
      have HP := Lib.hid hP
      have HJ := Lib.hid hJ
      have HQ := Lib.hid (show (fun j => f (j % n)) j = f q by show f (j % n) = f q; rw [hq])
      have HN := Lib.hid hjn
      clear sr hI hmk hP hJ gc hq hjn
      go_wp2_with fail
      refine K5.out.mono ?_
      rintro r w6 ⟨v, f', D3, m3, s', rfl, hS, hI3, hm3, s6⟩
      obtain ⟨sn, hR, hJn⟩ := HJs.out j s HJ.out (by omega)
      obtain ⟨rfl, rfl, rfl, P3⟩ := HP.out.step (show (j : Int) < (zn : Int) by omega) HQ.out (by omega) rfl (show (0 : Int) ≤ (a0 : Int) by omega) (by
        rw [(egS_len 4 2 (by omega)).1]
        show (a0 : Int) + (zn : Int) ≤ ((8 : Nat) : Int)
        omega) hR hS hI3
      rw [HN.out] at P3 hJn
      have hjn := HN.out
      have J3 := Lib.hid hJn
      have I3 := Lib.hid hI3
      have M3 := Lib.hid hm3
      have P3' := Lib.hid P3
      rcases P3 with ⟨e, -⟩ | ⟨-, hl, hm, O⟩ | ⟨-, he, hm, O⟩
      · omega
      · replace hl : (jn : Int) < (zn : Int) := hl
        have p1 : jn < zn := by omega
        have p2 : ¬ jn = zn := by omega
        have p3 : ¬ (jn : Int) = (zn : Int) := by omega
        have d1 : decide ((jn : Int) < (zn : Int)) = true := decide_eq_true hl
        have d2 : decide ((jn : Int) = (zn : Int)) = false := decide_eq_false (by omega)
        have K6 := Lib.hid (est_c (eng_blk (hm ▸ s6)))
        rw [show (rq a0 zn).len = (zn : Int) from rfl] at K6
        have S6 := Lib.hid s6
        clear K5 HP HJ hS hI3 hm3 s6 hR hJn O hm
        go_wp2_with fail
        refine K6.out.mono ?_
        rintro r w7 ⟨rfl, hb7⟩
        have S7 := Lib.hid ((S6.out.stay hb7).alloc (.cells #[.int .i64 0, .int .i64 jn, .int .i64 zn] 49))
        clear hb7 S6 K6
        go_wp2_with fail
        go_roundw
        case rel => exact ⟨jn, D3, m3, _, by omega, by go_num, P3'.out, I3.out, M3.out, J3.out, S7.out⟩
        case measure => simp [intOf]; omega
      · replace he : (jn : Int) = (zn : Int) := he
        obtain rfl : jn = zn := by omega
        have K6 := Lib.hid (est_c (no := -1) (at_ := 0) (z := 0) (eng_blk (hm ▸ s6)))
        have S6 := Lib.hid s6
        clear K5 HP HJ hS hI3 hm3 s6 hR hJn O hm he
        go_wp2_with fail
        refine K6.out.mono ?_
        rintro r w7 ⟨rfl, hb7⟩
        have S7 := Lib.hid ((S6.out.stay hb7).alloc (.cells #[.int .i64 (-1), .int .i64 0, .int .i64 0] 49))
        clear hb7 S6 K6
        go_wp2_with fail
        go_roundw
        case rel => exact ⟨_, D3, m3, _, Nat.le_refl _, by go_num, P3'.out, I3.out, M3.out, J3.out, S7.out⟩
        case measure => simp [intOf]; omega
    · obtain rfl : j = zn := by omega
      obtain ⟨rfl, O3⟩ : m9 = idleV ∧ OneF 4 2 1 (wrS (egS 4) 2 a0 ((List.range j).map fun j => f (j % n))) (rq a0 j) 5 0 D 1 1 0 true false false 0 [] := by
        rcases hP with ⟨e, -⟩ | ⟨-, e, -⟩ | ⟨-, -, h1, h2⟩
        · omega
        · have e : (j : Int) < (j : Int) := e
          omega
        · exact ⟨h1, h2⟩
      have z1 : decide ((j : Int) < (j : Int)) = false := decide_eq_false (by omega)
      have h8 : a0 + ((List.range j).map fun j => f (j % n)).length ≤ 8 := by simp; omega
      have HO3 := Lib.hid O3
      have BYT := Lib.hid (bytes h8)
      have GEN := Lib.hid (show (wrS (egS 4) 2 a0 ((List.range j).map fun j => f (j % n)) 2).gen = 1 from rfl)
      have OWN := Lib.hid (show (wrS (egS 4) 2 a0 ((List.range j).map fun j => f (j % n)) 2).owner ≠ 0 by show (1 : Int) ≠ 0; omega)
      have LEN := Lib.hid (show (wrS (egS 4) 2 a0 ((List.range j).map fun j => f (j % n)) 2).bs.length = 8 by rw [wr_bs h8]; exact bl_len h8)
      have BLE := Lib.hid (bl_len h8)
      have BLO := Lib.hid (fun (q : Nat) (h : q < a0) => bl_lo (xs := (List.range j).map fun j => f (j % n)) h)
      have BMI := Lib.hid (fun (q : Nat) (h : a0 ≤ q) (h2 : q < a0 + j) => bl_mid (f := fun j => f (j % n)) h h2)
      have BHI := Lib.hid (fun (q : Nat) (h : a0 + j ≤ q) (h2 : q < 8) => bl_hi (f := fun j => f (j % n)) h h2)
      generalize bl a0 ((List.range j).map fun j => f (j % n)) = BL at BYT BLE BLO BMI BHI
      generalize wrS (egS 4) 2 a0 ((List.range j).map fun j => f (j % n)) = st1 at HO3 BYT GEN OWN LEN
      have K6 := Lib.hid (reapW sr HO3.out.I)
      clear sr hI hmk hP hJ O3 h8
      go_wp2_with fail
      refine K6.out.mono ?_
      rintro r w6 ⟨d6, f6, g6, k6, q6, st6, rfl, hP6, hk6, hI6, hK6, s6⟩
      obtain ⟨rfl, hreq, O5⟩ := HO3.out.reap hP6 hk6 hI6 hK6
      rw [if_pos rfl, hreq, show (rq a0 j).id = 1 from rfl]
      generalize Dv.rpD _ _ _ _ _ _ _ = D6 at *
      have O5 : OneF 4 2 1 st1 (rq a0 j) 5 0 D6 1 1 1 true true false 0 [⟨1, 1, 0⟩] := O5
      have K7 := Lib.hid (goW (u := 8) s6 O5.I (by omega))
      have HO5 := Lib.hid O5
      clear s6 K6 hP6 hk6 hI6 hK6 O5 hreq
      go_wp2_with fail
      refine K7.out.mono ?_
      rintro r w7 ⟨B7, m7, d7, o, D7, rfl, ho, hl, -, hI7, hG7, -, -, s7⟩
      obtain ⟨hg, rfl, O7⟩ := HO5.out.go (by omega) (by omega) ho hI7 hG7
      rw [hg]
      obtain rfl : m7 = 1 := hl.symm
      have S7 := Lib.hid (show St wb None w7 (DvL a 4 2 bq D7 ++ (EngX e b g mb a.d mp C 0 idleV s ++ [LisR 82 3 (.slice B7 1 d7) 1 (fvs [⟨1, 1, 0⟩])])) from s7)
      have hr : po.ReadP 4 D7.st 2 1 0 8 BL 0 := by
        have h := O7.reads (i := 2) (a := 0) (m := 8) (by omega) OWN.out (by rw [LEN.out]; refine ⟨by omega, ?_, by omega, ?_⟩ <;> decide)
        rw [BYT.out, GEN.out] at h
        exact h
      have K8 := Lib.hid (po.read_o S7.out 1 rfl O7.I.c.pok hr)
      rw [BLE.out] at K8
      clear K7 ho hl hI7 hG7 s7 O7 S7 hr hg HO5
      go_wp2_with fail
      refine K8.out.mono ?_
      rintro r w8 ⟨B8, c8, rfl, s8⟩
      have S8 := Lib.hid (show St wb None w8 (DvL a 4 2 bq D7 ++ (EngX e b g mb a.d mp C 0 idleV s ++ [LisR 82 3 (.slice B7 1 d7) 1 (fvs [⟨1, 1, 0⟩]), LisR 5 1 (.slice B8 8 c8) 8 (po.bys BL)])) from s8)
      clear s8 K8
      go_wp2_with fail
      go_loopw [25] (fun i wr => ∃ q : Nat, q ≤ 8 ∧ i = .int .i64 q ∧ St wb None wr (DvL a 4 2 bq D7 ++ (EngX e b g mb a.d mp C 0 idleV s ++ [LisR 82 3 (.slice B7 1 d7) 1 (fvs [⟨1, 1, 0⟩]), LisR 5 1 (.slice B8 8 c8) 8 (po.bys BL)]))) (fun i _ => 8 - (intOf i).toNat)
      case atStart => exact ⟨0, by omega, rfl, S8.out⟩
      case round =>
        clear S8
        obtain ⟨q, hq, rfl, sr⟩ := hrel
        by_cases hlt : q < 8
        · have z2 : decide ((q : Int) < 8) = true := decide_eq_true (by omega)
          obtain ⟨gb, go_, rfl, gc⟩ := (sr.lis 12 rfl).reads.2.resolve_left (by omega)
          obtain ⟨gd, gf, rfl, -, gx⟩ := (RD.out.below (below_then BB.out sr.below) (Nat.le_refl _)) (by omega)
          have SR := Lib.hid sr
          clear sr
          by_cases h1 : a0 ≤ q
          · have d1 : decide ((a0 : Int) ≤ (q : Int)) = true := decide_eq_true (by omega)
            by_cases h2 : q < en
            · have d2 : decide ((q : Int) < (en : Int)) = true := decide_eq_true (by omega)
              obtain ⟨p, hp⟩ : ∃ p, q - a0 = p := ⟨_, rfl⟩
              have cp : IntKind.i64.wrap ((q : Int) - (a0 : Int)) = (p : Int) := by rw [show (q : Int) - (a0 : Int) = (p : Int) by omega]; exact IntWalk.i64_in _ ⟨by omega, by omega⟩
              obtain ⟨u, hu⟩ : ∃ u, p % n = u := ⟨_, rfl⟩
              have hun : u < n := by rw [← hu]; exact Nat.mod_lt _ (by omega)
              have ct : Int.tmod (p : Int) (n : Int) = (u : Int) := by rw [tmodN (by omega), hu]
              have g1 := gx u hun
              have g0 := gc q (.int .u8 (f u)) (by unfold po.bys; rw [List.getElem?_map, BMI.out q h1 (by omega), hp, hu]; rfl)
              clear gc gx hp hu
              go_wp2_with fail
              go_roundw
              case rel => exact ⟨q + 1, by omega, by go_num, SR.out⟩
              case measure => simp [intOf]; omega
            · have d2 : decide ((q : Int) < (en : Int)) = false := decide_eq_false (by omega)
              have g0 := gc q (.int .u8 0) (by unfold po.bys; rw [List.getElem?_map, BHI.out q (by omega) hlt]; rfl)
              clear gc gx
              go_wp2_with fail
              go_roundw
              case rel => exact ⟨q + 1, by omega, by go_num, SR.out⟩
              case measure => simp [intOf]; omega
          · have d1 : decide ((a0 : Int) ≤ (q : Int)) = false := decide_eq_false (by omega)
            have g0 := gc q (.int .u8 0) (by unfold po.bys; rw [List.getElem?_map, BLO.out q (by omega)]; rfl)
            clear gc gx
            go_wp2_with fail
            go_roundw
            case rel => exact ⟨q + 1, by omega, by go_num, SR.out⟩
            case measure => simp [intOf]; omega
        · obtain rfl : q = 8 := by omega
          obtain ⟨fb, fo, rfl, fc⟩ := (sr.lis 11 rfl).reads.2.resolve_left (by omega)
          have f0 : wr.cell? ⟨fb, fo, none⟩ = some (.int .i64 1) := fc 0 _ rfl
          have f1 : wr.cell? ⟨fb, fo + 1, none⟩ = some (.int .i64 1) := fc 1 _ rfl
          have f2 : wr.cell? ⟨fb, fo + 2, none⟩ = some (.int .i64 0) := fc 2 _ rfl
          have DN := Lib.hid (below_then BB.out sr.below)
          clear sr fc
          go_wp2_with fail
          go_ret
          exact ⟨rfl, DN.out⟩

set_option maxRecDepth 100000 in
theorem lifted (os : Os) (started : os.Started) (H : Type) (enc : TypeId × Value → H) :
    ReturnsInHanded {} Tryz.checked os 5 .any (Rows.engineWholeSpec.pre6 enc Tryz.prog Tryz.f5 Rows.engineWholeRow.domain false) (Rows.engineWholeSpec.post enc Tryz.prog Tryz.f5 false true false false) := by
  refine law_lifted (C := Tryz.checked) (tb := 4) own started (by kernel_rfl) Tryz.func5
    (ChangeSpec.witness6 (enc := enc) (C := Tryz.checked) false ⟨#[], #[.int .u8 0, .int .u8 0, .slice none 0 0], []⟩ 8 (by kernel_rfl) (by kernel_rfl) (by kernel_rfl) (by kernel_rfl)) laid (by kernel_rfl) (by kernel_rfl) Tryz.underlying4 rfl ?_
  intro W base args ds ps hval0 hA0 hlt
  have hval : ∀ (j : Nat) t v, Tryz.f5.params[j]? = some t → args[j]? = some v → Value.okWide Tryz.prog W .any base t v := hval0
  have hA : DataW.TrodAll enc Tryz.prog W 0 (fun _ => true) true Tryz.f5.params.toList args.toList ds ps := hA0
  clear hA0 hval0
  rw [Tryz.params5] at hA hval
  obtain ⟨v0, vs0, d0, ds0, p0, q0, hargs, rfl, rfl, h0, r0⟩ := trodAll_cons hA
  obtain ⟨v1, vs1, d1, ds1, p1, q1, rfl, rfl, rfl, h1, r1⟩ := trodAll_cons r0
  obtain ⟨v2, vs2, d2, ds2, p2, q2, rfl, rfl, rfl, h2, r2⟩ := trodAll_cons r1
  obtain ⟨rfl, rfl, rfl⟩ := trodAll_nil r2
  obtain rfl : args = #[v0, v1, v2] := by cases args; simp_all
  obtain ⟨a0, rfl, rfl, rfl, w0⟩ := open_int Tryz.underlying5 (hval 0 5 v0 rfl rfl) h0
  obtain ⟨a1, rfl, rfl, rfl, w1⟩ := open_int Tryz.underlying5 (hval 1 5 v1 rfl rfl) h1
  obtain ⟨A2, n2, cap2, f2, rfl, le2, mx2, wf2, rd2⟩ := open_slice_ints Tryz.underlying62 Tryz.underlying5 (by kernel_rfl) (hval 2 62 v2 rfl rfl) h2
  refine ⟨⟨rfl, rfl, rfl⟩, ?_⟩
  exact walk a0 a1 A2 n2 cap2 f2 W (bounds_u8 w0) (bounds_u8 w1) (by omega) rd2

theorem over : Rows.engineWholeRow.holds Tryz.pinned (OpenSpec.ofChange Rows.engineWholeSpec) :=
  OpenClaim.holds_of_wide 5 Tryz.f5 rfl rfl rfl rfl rfl rfl rfl ⟨rfl, rfl, rfl, rfl, rfl⟩ rfl rfl rfl rfl rfl (by kernel_rfl) Tryz.func5 (by kernel_rfl)
    (of_decide_eq_true (by kernel_rfl)) (by unfold Func.isWrapper; first | (rw [if_pos (by decide +kernel)]; kernel_rfl) | (rw [if_neg (by decide +kernel)]; exact ⟨rfl, rfl⟩))
    (fun os started H enc _ => lifted os started H enc)
theorem proved : Rows.EngineWholeSaid := over
#print axioms proved
end Go.Proofs.YtdjhpdacglojaaaGreat.engineWhole
