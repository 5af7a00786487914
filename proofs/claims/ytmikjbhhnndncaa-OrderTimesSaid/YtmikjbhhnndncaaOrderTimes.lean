/-
  For every list of requests OrderTimes answers true, and changes nothing: what is taken is never later than what stays; those of one time are all taken with at most two turns of the head. No condition.
-/
import Derived.Test.YtmikjbhhnndncaaRows
import Derived.Test.YtmikjbhhnndncaaFr
import Derived.Test.YtmikjbhhnndncaaOrdU
import Derived.Deep.DeepCutAuto
import Derived.Test.YtmikjbhhnndncaaOpen
import Derived.Test.YtmikjbhhnndncaaRd
namespace Go.Proofs.Ytmikjbhhnndncaa.orderTimes
open Go.ChangeShapes Go.WideShapes Go.ChangeAt Go.RowKit
set_option linter.unusedVariables false
theorem own : ownKnob Try.prog.godebug = none := by kernel_rfl
theorem laid : laidOutB Try.prog = true := by kernel_rfl
set_option maxRecDepth 100000
set_option maxHeartbeats 2000000
theorem walk (A : Option Addr) (n cap : Nat) (V : Nat → Nat → Value) (w : World) (hm : n ≤ maxLen) (rd : RdM w A n 3 V) (hV : ∀ j, j < n → ∃ x : Wt, V j 0 = .int .i64 x.id ∧ V j 1 = .int .u64 x.dead ∧ V j 2 = .int .i64 x.track ∧ 0 ≤ x.dead) :
    Calls Try.prog 4 #[.slice A n cap] w fun r w' => r = .returned (.bool true) ∧ Below w.heap.size w w' := by
  unfold maxLen at hm
  have RD := Lib.hid rd
  have HV := Lib.hid hV
  clear rd hV
  have AW := Lib.hid (awake_o (St.begin w))
  by_cases hbig : 64 < n
  · have d1 : decide (64 < (n : Int)) = true := decide_eq_true (by omega)
    have d1' : decide (64 < n) = true := decide_eq_true hbig
    go_enter Try.func4, Try.ntmps4
    go_wp2_with fail
    refine AW.out.mono ?_
    rintro r w1 ⟨rfl, s1⟩
    go_wp2_with fail
    go_ret
    exact ⟨rfl, s1.below⟩
  have d1 : decide (64 < (n : Int)) = false := decide_eq_false (by omega)
  have d1' : decide (64 < n) = false := decide_eq_false hbig
  go_enter Try.func4, Try.ntmps4
  go_wp2_with fail
  refine AW.out.mono ?_
  rintro r w1 ⟨rfl, s1⟩
  have N1 := Lib.hid (New_o s1)
  clear s1 AW
  go_wp2_with fail
  refine N1.out.mono ?_
  rintro r w2 ⟨q, rfl, s2'⟩
  have S2 := Lib.hid (show St w None w2 [OQR q OSt.new] from s2')
  clear s2' N1
  go_wp2_with fail
  go_loopw [4, 5] (fun c i wr => ∃ (k m : Nat) (s : OSt), k ≤ n ∧ m ≤ k ∧ i = .int .i64 k ∧ c = .int .i64 m ∧ s.l.length = m ∧ s.ok ∧ St w None wr [OQR q s]) (fun _ i _ => n - (intOf i).toNat)
  case atStart => exact ⟨0, 0, OSt.new, by omega, by omega, rfl, rfl, rfl, OSt.new_ok, S2.out⟩
  case round =>
  clear S2
  obtain ⟨k, m, s, hk, hmk, rfl, rfl, hlen, hok, sr⟩ := hrel
  by_cases hkn : k < n
  · obtain ⟨x, v0, v1, v2, hx0⟩ := HV.out k hkn
    obtain ⟨ib, off, rfl, e0, e1, e2⟩ := RD.out.at3 sr.below hkn
    rw [v0] at e0
    rw [v1] at e1
    rw [v2] at e2
    have t0 : decide ((k : Int) < (n : Int)) = true := decide_eq_true (by omega)
    have t0' : decide (k < n) = true := decide_eq_true hkn
    obtain ⟨f, s', hP⟩ := addP_ex s x
    have CA := Lib.hid (Add_o sr 0 rfl hok hx0 hP)
    have OK' := Lib.hid (hP.ok hok)
    have hcase := hP.count
    have HLN := Lib.hid hlen
    clear hP hok sr v0 v1 v2 hlen
    rcases hcase with ⟨rfl, hl⟩ | ⟨hf, rfl⟩
    · have HL := Lib.hid (show s'.l.length = m + 1 by rw [hl, HLN.out])
      clear hl HLN
      go_wp2_with fail
      refine CA.out.mono ?_
      rintro r' w4 ⟨rfl, s4⟩
      have S4 := Lib.hid s4
      clear CA s4 e0 e1 e2
      go_wp2_with fail
      go_roundw
      case rel => exact ⟨k + 1, m + 1, s', by omega, by omega, by go_num, by go_num, HL.out, OK'.out, S4.out⟩
      case measure => simp [intOf]; omega
    · have z1 : (f == 0) = false := beq_eq_false_iff_ne.2 hf
      clear hf
      go_wp2_with fail
      refine CA.out.mono ?_
      rintro r' w4 ⟨rfl, s4⟩
      have S4 := Lib.hid s4
      clear CA s4 e0 e1 e2
      go_wp2_with fail
      go_roundw
      case rel => exact ⟨k + 1, m, _, by omega, by omega, by go_num, rfl, HLN.out, OK'.out, S4.out⟩
      case measure => simp [intOf]; omega
  · have t0 : decide ((k : Int) < (n : Int)) = false := decide_eq_false (by omega)
    have t0' : decide (k < n) = false := decide_eq_false hkn
    have CH := Lib.hid (Head_o sr 0 rfl)
    have TB := Lib.hid (Turn.begin hok)
    have HLN := Lib.hid hlen
    clear sr hok hlen
    go_wp2_with fail
    refine CH.out.mono ?_
    rintro r' w4 ⟨rfl, s4⟩
    have S4 := Lib.hid s4
    clear CH s4
    go_wp2_with fail
    go_loopw [6, 7, 9, 10] (fun l tu wa i wr => ∃ (j t : Nat) (last : Int) (s : OSt), j ≤ m ∧ i = .int .i64 j ∧ l = .int .u64 last ∧ tu = .int .i64 t ∧ wa = .bool s.up ∧ Turn s last t ∧ s.l.length + j = m ∧ St w None wr [OQR q s]) (fun _ _ _ i _ => m - (intOf i).toNat)
    case atStart => exact ⟨0, 0, 0, s, by omega, rfl, rfl, rfl, rfl, TB.out, HLN.out, S4.out⟩
    case round =>
    clear S4 TB HLN
    obtain ⟨j, t, last, s, hjm, rfl, rfl, rfl, rfl, hT, hlen, sr⟩ := hrel
    by_cases hjm2 : j < m
    · have u0 : decide ((j : Int) < (m : Int)) = true := decide_eq_true (by omega)
      have u0' : decide (j < m) = true := decide_eq_true hjm2
      obtain ⟨x, s', hTk, hle, hl', hcase⟩ := hT.step (fun e => by rw [e] at hlen; simp at hlen; omega)
      have CT := Lib.hid (Take_o sr 0 rfl hT.ok hTk)
      have HLN := Lib.hid (show s'.l.length + (j + 1) = m by omega)
      have ht1 := hT.le
      have z1 : decide (x.dead < last) = false := decide_eq_false (by omega)
      obtain ⟨b, hb⟩ : ∃ b, s.up = b := ⟨_, rfl⟩
      rw [hb] at hcase
      rw [hb]
      clear hTk sr hT hlen hl' hle hb
      rcases hcase with ⟨hu, hd, hT'⟩ | ⟨hu, hd, hT'⟩ | ⟨hu, hd, rfl, hT'⟩ | ⟨hu, hd, hT'⟩
      · have HU := Lib.hid hu
        have HT' := Lib.hid hT'
        subst hd
        have z2 : (x.dead != x.dead) = false := by simp
        have z3 : decide (2 < (t : Int)) = false := decide_eq_false (by omega)
        have z3' : decide (2 < t) = false := decide_eq_false (by omega)
        clear hu hT'
        cases b
        · go_wp2_with fail
          refine CT.out.mono ?_
          rintro r' w5 ⟨rfl, s5'⟩
          have s5 : St w None _ [OQR q s', BlkR w5.heap.size 32 #[.int .i64 x.id, .int .u64 x.dead, .int .i64 x.track]] := St.box (L := [_]) s5' 32 #[.int .i64 x.id, .int .u64 x.dead, .int .i64 x.track]
          have CH := Lib.hid (Head_o s5 0 rfl)
          rw [HU.out] at CH
          clear CT s5 s5'
          go_wp2_with fail
          refine CH.out.mono ?_
          rintro r' w6 ⟨rfl, s6⟩
          obtain ⟨b0, b1, b2⟩ := (s6.blk 1 rfl).three
          have S6 := Lib.hid (s6.take 1)
          clear CH s6
          go_wp2_with fail
          go_roundw
          case rel => exact ⟨j + 1, _, x.dead, s', by omega, by go_num, rfl, rfl, by first | (rw [HU.out]; rfl) | rw [HU.out], HT'.out, HLN.out, S6.out⟩
          case measure => simp [intOf]; omega
        · go_wp2_with fail
          refine CT.out.mono ?_
          rintro r' w5 ⟨rfl, s5'⟩
          have s5 : St w None _ [OQR q s', BlkR w5.heap.size 32 #[.int .i64 x.id, .int .u64 x.dead, .int .i64 x.track]] := St.box (L := [_]) s5' 32 #[.int .i64 x.id, .int .u64 x.dead, .int .i64 x.track]
          have CH := Lib.hid (Head_o s5 0 rfl)
          rw [HU.out] at CH
          clear CT s5 s5'
          go_wp2_with fail
          refine CH.out.mono ?_
          rintro r' w6 ⟨rfl, s6⟩
          obtain ⟨b0, b1, b2⟩ := (s6.blk 1 rfl).three
          have S6 := Lib.hid (s6.take 1)
          clear CH s6
          go_wp2_with fail
          go_roundw
          case rel => exact ⟨j + 1, _, x.dead, s', by omega, by go_num, rfl, rfl, by first | (rw [HU.out]; rfl) | rw [HU.out], HT'.out, HLN.out, S6.out⟩
          case measure => simp [intOf]; omega
      · have HU := Lib.hid hu
        have HT' := Lib.hid hT'
        have z2 : (x.dead != last) = true := by simp [hd]
        clear hu hT' hd
        cases b
        · go_wp2_with fail
          refine CT.out.mono ?_
          rintro r' w5 ⟨rfl, s5'⟩
          have s5 : St w None _ [OQR q s', BlkR w5.heap.size 32 #[.int .i64 x.id, .int .u64 x.dead, .int .i64 x.track]] := St.box (L := [_]) s5' 32 #[.int .i64 x.id, .int .u64 x.dead, .int .i64 x.track]
          have CH := Lib.hid (Head_o s5 0 rfl)
          rw [HU.out] at CH
          clear CT s5 s5'
          go_wp2_with fail
          refine CH.out.mono ?_
          rintro r' w6 ⟨rfl, s6⟩
          obtain ⟨b0, b1, b2⟩ := (s6.blk 1 rfl).three
          have S6 := Lib.hid (s6.take 1)
          clear CH s6
          go_wp2_with fail
          go_roundw
          case rel => exact ⟨j + 1, _, x.dead, s', by omega, by go_num, rfl, rfl, by first | (rw [HU.out]; rfl) | rw [HU.out], HT'.out, HLN.out, S6.out⟩
          case measure => simp [intOf]; omega
        · go_wp2_with fail
          refine CT.out.mono ?_
          rintro r' w5 ⟨rfl, s5'⟩
          have s5 : St w None _ [OQR q s', BlkR w5.heap.size 32 #[.int .i64 x.id, .int .u64 x.dead, .int .i64 x.track]] := St.box (L := [_]) s5' 32 #[.int .i64 x.id, .int .u64 x.dead, .int .i64 x.track]
          have CH := Lib.hid (Head_o s5 0 rfl)
          rw [HU.out] at CH
          clear CT s5 s5'
          go_wp2_with fail
          refine CH.out.mono ?_
          rintro r' w6 ⟨rfl, s6⟩
          obtain ⟨b0, b1, b2⟩ := (s6.blk 1 rfl).three
          have S6 := Lib.hid (s6.take 1)
          clear CH s6
          go_wp2_with fail
          go_roundw
          case rel => exact ⟨j + 1, _, x.dead, s', by omega, by go_num, rfl, rfl, by first | (rw [HU.out]; rfl) | rw [HU.out], HT'.out, HLN.out, S6.out⟩
          case measure => simp [intOf]; omega
      · have HU := Lib.hid hu
        have HT' := Lib.hid hT'
        subst hd
        have z2 : (x.dead != x.dead) = false := by simp
        clear hu hT'
        cases b
        · go_wp2_with fail
          refine CT.out.mono ?_
          rintro r' w5 ⟨rfl, s5'⟩
          have s5 : St w None _ [OQR q s', BlkR w5.heap.size 32 #[.int .i64 x.id, .int .u64 x.dead, .int .i64 x.track]] := St.box (L := [_]) s5' 32 #[.int .i64 x.id, .int .u64 x.dead, .int .i64 x.track]
          have CH := Lib.hid (Head_o s5 0 rfl)
          rw [HU.out] at CH
          clear CT s5 s5'
          go_wp2_with fail
          refine CH.out.mono ?_
          rintro r' w6 ⟨rfl, s6⟩
          obtain ⟨b0, b1, b2⟩ := (s6.blk 1 rfl).three
          have S6 := Lib.hid (s6.take 1)
          clear CH s6
          go_wp2_with fail
          go_roundw
          case rel => exact ⟨j + 1, _, x.dead, s', by omega, by go_num, rfl, rfl, by first | (rw [HU.out]; rfl) | rw [HU.out], HT'.out, HLN.out, S6.out⟩
          case measure => simp [intOf]; omega
        · go_wp2_with fail
          refine CT.out.mono ?_
          rintro r' w5 ⟨rfl, s5'⟩
          have s5 : St w None _ [OQR q s', BlkR w5.heap.size 32 #[.int .i64 x.id, .int .u64 x.dead, .int .i64 x.track]] := St.box (L := [_]) s5' 32 #[.int .i64 x.id, .int .u64 x.dead, .int .i64 x.track]
          have CH := Lib.hid (Head_o s5 0 rfl)
          rw [HU.out] at CH
          clear CT s5 s5'
          go_wp2_with fail
          refine CH.out.mono ?_
          rintro r' w6 ⟨rfl, s6⟩
          obtain ⟨b0, b1, b2⟩ := (s6.blk 1 rfl).three
          have S6 := Lib.hid (s6.take 1)
          clear CH s6
          go_wp2_with fail
          go_roundw
          case rel => exact ⟨j + 1, _, x.dead, s', by omega, by go_num, rfl, rfl, by first | (rw [HU.out]; rfl) | rw [HU.out], HT'.out, HLN.out, S6.out⟩
          case measure => simp [intOf]; omega
      · have HU := Lib.hid hu
        have HT' := Lib.hid hT'
        have z2 : (x.dead != last) = true := by simp [hd]
        clear hu hT' hd
        cases b
        · go_wp2_with fail
          refine CT.out.mono ?_
          rintro r' w5 ⟨rfl, s5'⟩
          have s5 : St w None _ [OQR q s', BlkR w5.heap.size 32 #[.int .i64 x.id, .int .u64 x.dead, .int .i64 x.track]] := St.box (L := [_]) s5' 32 #[.int .i64 x.id, .int .u64 x.dead, .int .i64 x.track]
          have CH := Lib.hid (Head_o s5 0 rfl)
          rw [HU.out] at CH
          clear CT s5 s5'
          go_wp2_with fail
          refine CH.out.mono ?_
          rintro r' w6 ⟨rfl, s6⟩
          obtain ⟨b0, b1, b2⟩ := (s6.blk 1 rfl).three
          have S6 := Lib.hid (s6.take 1)
          clear CH s6
          go_wp2_with fail
          go_roundw
          case rel => exact ⟨j + 1, _, x.dead, s', by omega, by go_num, rfl, rfl, by first | (rw [HU.out]; rfl) | rw [HU.out], HT'.out, HLN.out, S6.out⟩
          case measure => simp [intOf]; omega
        · go_wp2_with fail
          refine CT.out.mono ?_
          rintro r' w5 ⟨rfl, s5'⟩
          have s5 : St w None _ [OQR q s', BlkR w5.heap.size 32 #[.int .i64 x.id, .int .u64 x.dead, .int .i64 x.track]] := St.box (L := [_]) s5' 32 #[.int .i64 x.id, .int .u64 x.dead, .int .i64 x.track]
          have CH := Lib.hid (Head_o s5 0 rfl)
          rw [HU.out] at CH
          clear CT s5 s5'
          go_wp2_with fail
          refine CH.out.mono ?_
          rintro r' w6 ⟨rfl, s6⟩
          obtain ⟨b0, b1, b2⟩ := (s6.blk 1 rfl).three
          have S6 := Lib.hid (s6.take 1)
          clear CH s6
          go_wp2_with fail
          go_roundw
          case rel => exact ⟨j + 1, _, x.dead, s', by omega, by go_num, rfl, rfl, by first | (rw [HU.out]; rfl) | rw [HU.out], HT'.out, HLN.out, S6.out⟩
          case measure => simp [intOf]; omega
    · have u0 : decide ((j : Int) < (m : Int)) = false := decide_eq_false (by omega)
      have u0' : decide (j < m) = false := decide_eq_false hjm2
      have he : s.l = [] := List.length_eq_zero_iff.1 (by omega)
      have CN := Lib.hid (Next_o sr 0 rfl hT.ok (x := ⟨0, 0, 0⟩) (up := false) (f := 5) (Or.inl ⟨he, rfl, rfl, rfl⟩))
      have HE := Lib.hid he
      clear sr hT hlen he
      go_wp2_with fail
      refine CN.out.mono ?_
      rintro r' w5 ⟨rfl, s5'⟩
      have s5 : St w None _ [OQR q s, BlkR w5.heap.size 32 #[.int .i64 0, .int .u64 0, .int .i64 0]] := St.box (L := [_]) s5' 32 #[.int .i64 0, .int .u64 0, .int .i64 0]
      obtain ⟨T, hT⟩ := s5.get 0 rfl
      have AC := Lib.hid (All_0 hT HE.out)
      have SB := Lib.hid s5.below
      clear hT s5 s5' CN
      go_wp2_with fail
      refine AC.out.mono ?_
      rintro r' w6 ⟨B, d, rfl, hb⟩
      have HB := Lib.hid (below_then SB.out hb)
      clear hb AC
      go_wp2_with fail
      go_ret
      exact ⟨rfl, HB.out⟩

set_option maxRecDepth 100000 in
theorem lifted (os : Os) (started : os.Started) (H : Type) (enc : TypeId × Value → H) :
    ReturnsInHanded {} Try.checked os 4 .any (Rows.orderTimesSpec.pre6 enc Try.prog Try.f4 Rows.orderTimesRow.domain false) (Rows.orderTimesSpec.post enc Try.prog Try.f4 false true false false) := by
  refine law_lifted (C := Try.checked) (tb := 4) own started (by kernel_rfl) Try.func4
    (ChangeSpec.witness6 (enc := enc) (C := Try.checked) false ⟨#[], #[.slice none 0 0], []⟩ 8 (by kernel_rfl) (by kernel_rfl) (by kernel_rfl) (by kernel_rfl)) laid (by kernel_rfl) (by kernel_rfl) Try.underlying4 rfl ?_
  intro W base args ds ps hval0 hA0 hlt
  have hval : ∀ (j : Nat) t v, Try.f4.params[j]? = some t → args[j]? = some v → Value.okWide Try.prog W .any base t v := hval0
  have hA : DataW.TrodAll enc Try.prog W 0 (fun _ => true) true Try.f4.params.toList args.toList ds ps := hA0
  clear hA0 hval0
  rw [Try.params4] at hA hval
  obtain ⟨v0, vs0, d0, ds0, p0, q0, hargs, rfl, rfl, h0, r0⟩ := trodAll_cons hA
  obtain ⟨rfl, rfl, rfl⟩ := trodAll_nil r0
  obtain rfl : args = #[v0] := by cases args; simp_all
  obtain ⟨A0, n0, cap0, V0, rfl, le0, mx0, rd0, lf0⟩ := open_slice_spots (m := 3) (d := 20) (l := [(0, 3), (1, 30), (2, 3)]) Try.underlying27 (by kernel_rfl) (by decide) (by kernel_rfl) (hval 0 27 v0 rfl rfl) h0
  have f0_0 := fun j hj => leaf_int Try.underlying3 (lf0 0 3 (by simp) j hj)
  have f0_1 := fun j hj => leaf_int Try.underlying30 (lf0 1 30 (by simp) j hj)
  have f0_2 := fun j hj => leaf_int Try.underlying3 (lf0 2 3 (by simp) j hj)
  refine ⟨⟨rfl, rfl, rfl⟩, ?_⟩
  exact walk A0 n0 cap0 V0 W (by omega) rd0 (fun j hj => by
    obtain ⟨x0, h0, -⟩ := f0_0 j hj
    obtain ⟨x1, h1, b1⟩ := f0_1 j hj
    obtain ⟨x2, h2, -⟩ := f0_2 j hj
    exact ⟨⟨x0, x1, x2⟩, h0, h1, h2, (bounds_u64 b1).1⟩)

theorem over : Rows.orderTimesRow.holds Try.pinned (OpenSpec.ofChange Rows.orderTimesSpec) :=
  OpenClaim.holds_of_wide 4 Try.f4 rfl rfl rfl rfl rfl rfl rfl ⟨rfl, rfl, rfl, rfl, rfl⟩ rfl rfl rfl rfl rfl (by kernel_rfl) Try.func4 (by kernel_rfl)
    (of_decide_eq_true (by kernel_rfl)) (by unfold Func.isWrapper; first | (rw [if_pos (by decide +kernel)]; kernel_rfl) | (rw [if_neg (by decide +kernel)]; exact ⟨rfl, rfl⟩))
    (fun os started H enc _ => lifted os started H enc)
theorem proved : Rows.OrderTimesSaid := over
#print axioms proved
end Go.Proofs.Ytmikjbhhnndncaa.orderTimes
