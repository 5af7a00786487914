/-
  For every list of requests and every request OrderEarly answers true, and changes nothing: whoever must come out first is next, wherever it is, and however the head goes. No condition.
-/
import Derived.Test.YtmikjbhhnndncaaRows
import Derived.Test.YtmikjbhhnndncaaFr
import Derived.Test.YtmikjbhhnndncaaOrdW
import Derived.Deep.DeepCutAuto
import Derived.Deep.CutBlock
import Derived.Deep.RegionHeld3
import Derived.Test.YtmikjbhhnndncaaOpen
import Derived.Test.YtmikjbhhnndncaaRd
namespace Go.Proofs.Ytmikjbhhnndncaa.orderEarly
open Go.ChangeShapes Go.WideShapes Go.ChangeAt Go.RowKit
set_option linter.unusedVariables false
theorem own : ownKnob Try.prog.godebug = none := by kernel_rfl
theorem laid : laidOutB Try.prog = true := by kernel_rfl
set_option maxRecDepth 100000
set_option maxHeartbeats 2000000
theorem walk (A : Option Addr) (n cap : Nat) (V : Nat → Nat → Value) (e : Wt) (w : World) (hm : n ≤ maxLen) (he0 : 0 ≤ e.dead) (rd : RdM w A n 3 V) (hV : ∀ j, j < n → ∃ x : Wt, V j 0 = .int .i64 x.id ∧ V j 1 = .int .u64 x.dead ∧ V j 2 = .int .i64 x.track ∧ 0 ≤ x.dead) :
    Calls Try.prog 7 #[.slice A n cap, .agg #[.int .i64 e.id, .int .u64 e.dead, .int .i64 e.track]] w fun r w' => r = .returned (.bool true) ∧ Below w.heap.size w w' := by
  unfold maxLen at hm
  have RD := Lib.hid rd
  have HV := Lib.hid hV
  clear rd hV
  have u0 : St w None _ [BlkR w.heap.size 32 #[.int .i64 e.id, .int .u64 e.dead, .int .i64 e.track]] := (St.begin w).box 32 #[.int .i64 e.id, .int .u64 e.dead, .int .i64 e.track]
  have AW := Lib.hid (awake_o u0)
  have MY := Lib.hid (fun (w1 : World) (b : Bool) (hb : b = decide (mayW e)) => May_c e w1 he0 b hb)
  unfold Wt.v at MY
  clear u0
  by_cases hbig : 60 < n
  · have d1 : decide (60 < (n : Int)) = true := decide_eq_true (by omega)
    have d1' : decide (60 < n) = true := decide_eq_true hbig
    go_enter Try.func7, Try.ntmps7
    go_wp2_with fail
    refine AW.out.mono ?_
    rintro r w1 ⟨rfl, s1⟩
    go_wp2_with fail
    go_ret
    exact ⟨rfl, s1.below⟩
  have d1 : decide (60 < (n : Int)) = false := decide_eq_false (by omega)
  have d1' : decide (60 < n) = false := decide_eq_false hbig
  by_cases hme : mayW e
  case neg =>
    go_enter Try.func7, Try.ntmps7
    go_wp2_with fail
    refine AW.out.mono ?_
    rintro r w1 ⟨rfl, s1⟩
    obtain ⟨b0, b1, b2⟩ := (s1.blk 0 rfl).three
    have M1 := Lib.hid (looks (MY.out w1 false (decide_eq_false hme).symm) s1)
    clear s1 AW hme
    go_wp2_with fail
    refine M1.out.mono ?_
    rintro r w2 ⟨rfl, s2⟩
    go_wp2_with fail
    go_ret
    exact ⟨rfl, s2.below⟩
  by_cases hz : e.dead = 0
  · have z0 : (e.dead == 0) = true := beq_iff_eq.2 hz
    have HME := Lib.hid hme
    have Z0 := Lib.hid z0
    clear z0 hme hz
    go_enter Try.func7, Try.ntmps7
    go_wp2_with fail
    refine AW.out.mono ?_
    rintro r w1 ⟨rfl, s1⟩
    obtain ⟨b0, b1, b2⟩ := (s1.blk 0 rfl).three
    have M1 := Lib.hid (looks (MY.out w1 true (decide_eq_true HME.out).symm) s1)
    clear s1 AW
    go_wp2_with fail
    refine M1.out.mono ?_
    rintro r w2 ⟨rfl, s2⟩
    clear b0 b1 b2
    obtain ⟨b0, b1, b2⟩ := (s2.blk 0 rfl).three
    have S2 := Lib.hid s2
    clear s2 M1
    have z0 := Z0.out
    go_wp2_with fail
    go_ret
    exact ⟨rfl, S2.out.below⟩
  have z0 : (e.dead == 0) = false := beq_eq_false_iff_ne.2 hz
  have hd1 : 1 ≤ e.dead := by omega
  have hd2 := hme.2.1.2
  have HME := Lib.hid hme
  clear hme hz
  go_enter Try.func7, Try.ntmps7
  go_wp2_with fail
  refine AW.out.mono ?_
  rintro r w1 ⟨rfl, s1⟩
  obtain ⟨b0, b1, b2⟩ := (s1.blk 0 rfl).three
  have M1 := Lib.hid (looks (MY.out w1 true (decide_eq_true HME.out).symm) s1)
  clear s1 AW MY
  go_wp2_with fail
  refine M1.out.mono ?_
  rintro r w2 ⟨rfl, s2⟩
  clear b0 b1 b2
  obtain ⟨b0, b1, b2⟩ := (s2.blk 0 rfl).three
  have N1 := Lib.hid (New_o s2)
  clear s2 M1
  go_wp2_with fail
  refine N1.out.mono ?_
  rintro r w3 ⟨q, rfl, s3⟩
  have S3 := Lib.hid (show St w None w3 [BlkR w.heap.size 32 #[.int .i64 e.id, .int .u64 e.dead, .int .i64 e.track], OQR q OSt.new] from s3)
  clear b0 b1 b2 s3 N1
  generalize w.heap.size = wb at *
  go_wp2_with fail
  go_loopw [6, 7] (fun c i wr => ∃ (k m : Nat) (s : OSt), k ≤ n ∧ m ≤ k ∧ i = .int .i64 k ∧ c = .int .i64 m ∧ s.ok ∧ s.l.length ≤ k ∧ Later s e.id e.dead ∧ St w None wr [BlkR wb 32 #[.int .i64 e.id, .int .u64 e.dead, .int .i64 e.track], OQR q s]) (fun _ i _ => n - (intOf i).toNat)
  case atStart => exact ⟨0, 0, OSt.new, by omega, by omega, rfl, rfl, OSt.new_ok, by simp [OSt.new], fun y hy => by simp [OSt.new] at hy, S3.out⟩
  case round =>
  clear S3
  obtain ⟨k, m, s, hk, hmk, rfl, rfl, hok, hlen, hlat, sr⟩ := hrel
  obtain ⟨b0, b1, b2⟩ := (sr.blk 0 rfl).three
  by_cases hkn : k < n
  · obtain ⟨x, v0, v1, v2, hx0⟩ := HV.out k hkn
    have hat := fun (W : World) (K : Below w.heap.size w W) => RD.out.at3 K hkn
    obtain ⟨ib, off, rfl, e0, e1, e2⟩ := hat _ sr.below
    rw [v0] at e0
    rw [v1] at e1
    rw [v2] at e2
    have CE := Lib.hid (fun (W : World) (K : Below w.heap.size w W) => show W.cell? ⟨ib, off + k * 3, none⟩ = some (.int .i64 x.id) ∧ W.cell? ⟨ib, off + k * 3 + 1, none⟩ = some (.int .u64 x.dead) ∧ W.cell? ⟨ib, off + k * 3 + 2, none⟩ = some (.int .i64 x.track) from by
      obtain ⟨ib', off', he, g0, g1, g2⟩ := hat _ K
      obtain ⟨rfl, rfl⟩ : ib = ib' ∧ off = off' := by simpa using he
      exact ⟨g0.trans (by rw [v0]), g1.trans (by rw [v1]), g2.trans (by rw [v2])⟩)
    have t0 : decide ((k : Int) < (n : Int)) = true := decide_eq_true (by omega)
    have t0' : decide (k < n) = true := decide_eq_true hkn
    have SR := Lib.hid sr
    have OK := Lib.hid hok
    have HLT := Lib.hid hlat
    have hlen' : s.l.length ≤ k + 1 := by omega
    clear hat v0 v1 v2 sr hok hlat
    by_cases hde : e.dead ≤ x.dead
    · have y1 : decide (e.dead ≤ x.dead) = true := decide_eq_true hde
      by_cases hid : x.id = e.id
      · have y2 : (x.id != e.id) = false := by simp [hid]
        have Y2 := Lib.hid y2
        clear y2 hid
        have y2 := Y2.out
        obtain ⟨i2, hi2⟩ : ∃ i2, i2 = x.id := ⟨_, rfl⟩
        rw [← hi2] at e0 y2
        clear hi2 CE Y2
        go_wp2_with fail
        go_quiet (fail)
        go_wp2_with fail
        go_roundw
        case rel => exact ⟨k + 1, m, s, by omega, by omega, by go_num, rfl, OK.out, hlen', HLT.out, SR.out.drewN _⟩
        case measure => simp [intOf]; omega
      · have y2 : (x.id != e.id) = true := by simp [hid]
        obtain ⟨f, s', hP⟩ := addP_ex s x
        have HP := Lib.hid hP
        have OK' := Lib.hid (hP.ok OK.out)
        have HLT' := Lib.hid (HLT.out.add hP ⟨hde, hid⟩)
        have hlen2 : s'.l.length ≤ k + 1 := Nat.le_trans hP.len (Nat.succ_le_succ hlen)
        have qq := And.intro e0 (And.intro e1 (And.intro e2 (And.intro b0 b1)))
        clear hP hid hde
        go_wp2_with fail
        go_region_held3 (fun w' => w'.cell? ⟨ib, off + k * 3, none⟩ = some (.int .i64 x.id) ∧ w'.cell? ⟨ib, off + k * 3 + 1, none⟩ = some (.int .u64 x.dead) ∧ w'.cell? ⟨ib, off + k * 3 + 2, none⟩ = some (.int .i64 x.track) ∧ w'.cell? ⟨wb, 0, none⟩ = some (.int .i64 e.id) ∧ w'.cell? ⟨wb, 1, none⟩ = some (.int .u64 e.dead)) (go_keep)
          (first | (go_at_call 11; refine (Add_o SR.out.drew 1 rfl OK.out hx0 HP.out).mono ?_; rintro r' w6 ⟨rfl, s6⟩; have S6 := Lib.hid s6; have q6' := CE.out _ s6.below; have q6 := And.intro q6'.1 (And.intro q6'.2.1 (And.intro q6'.2.2 (And.intro (s6.blk 0 rfl).three.1 (s6.blk 0 rfl).three.2.1))); clear s6 q6'))
        clear qq q6 e0 e1 e2 b0 b1 b2 CE
        by_cases hf : f = 0
        · subst hf
          go_wp2_with fail
          go_roundw
          case rel => exact ⟨k + 1, m + 1, s', by omega, by omega, by go_num, by go_num, OK'.out, hlen2, HLT'.out, S6.out⟩
          case measure => simp [intOf]; omega
        · have z2 : (f == 0) = false := beq_eq_false_iff_ne.2 hf
          go_wp2_with fail
          go_roundw
          case rel => exact ⟨k + 1, m, s', by omega, by omega, by go_num, rfl, OK'.out, hlen2, HLT'.out, S6.out⟩
          case measure => simp [intOf]; omega
    · have y1 : decide (e.dead ≤ x.dead) = false := decide_eq_false hde
      clear CE hde
      go_wp2_with fail
      go_quiet (fail)
      go_wp2_with fail
      go_roundw
      case rel => exact ⟨k + 1, m, s, by omega, by omega, by go_num, rfl, OK.out, hlen', HLT.out, SR.out.drewN _⟩
      case measure => simp [intOf]; omega
  · have t0 : decide ((k : Int) < (n : Int)) = false := decide_eq_false (by omega)
    have t0' : decide (k < n) = false := decide_eq_false hkn
    have SR := Lib.hid sr
    have OK := Lib.hid hok
    have HLT := Lib.hid hlat
    have hl60 : s.l.length ≤ 60 := by omega
    clear sr hok hlat b0 b1 b2
    go_upto_if 67 with (fail)
    go_cut [] (fun wx => ∃ (s' : OSt), s'.ok ∧ s'.l.length ≤ 60 ∧ Later s' e.id e.dead ∧ St w None wx [BlkR wb 32 #[.int .i64 e.id, .int .u64 e.dead, .int .i64 e.track], OQR q s'])
    case first =>
      by_cases hm1 : 1 < m
      · have z2 : decide (1 < (m : Int)) = true := decide_eq_true (by omega)
        have z2' : decide (1 < m) = true := decide_eq_true hm1
        obtain ⟨x, f, s', hT⟩ := takeP_ex OK.out
        have CT := Lib.hid (Take_o SR.out 1 rfl OK.out hT)
        have OK' := Lib.hid (hT.ok OK.out)
        have HLT' := Lib.hid (HLT.out.take hT)
        have hl61 : s'.l.length ≤ 60 := Nat.le_trans hT.len hl60
        clear hT
        go_wp2_with fail
        refine CT.out.mono ?_
        rintro r' w6 ⟨rfl, s6⟩
        have S6 := Lib.hid s6
        clear CT s6
        go_wp2_with fail
        go_meet
        exact ⟨s', OK'.out, hl61, HLT'.out, S6.out⟩
      · have z2 : decide (1 < (m : Int)) = false := decide_eq_false (by omega)
        have z2' : decide (1 < m) = false := decide_eq_false hm1
        go_wp2_with fail
        go_meet
        exact ⟨s, OK.out, hl60, HLT.out, SR.out⟩
    case rest =>
      obtain ⟨s', hok, hl61, hlat, s7⟩ := hcut
      clear SR OK HLT hl60 hlen
      have hw3 : IntKind.u64.wrap (e.dead - 1) = e.dead - 1 := IntWalk.u64_in _ ⟨by omega, by omega⟩
      obtain ⟨y, hy⟩ : ∃ y : Wt, y = ⟨e.id, e.dead - 1, e.track⟩ := ⟨_, rfl⟩
      have hmy : mayW ⟨e.id, e.dead - 1, e.track⟩ := ⟨HME.out.1, ⟨by show 0 ≤ e.dead - 1; omega, by show e.dead - 1 < _; omega⟩, HME.out.2.2⟩
      obtain ⟨s1, hadd, hok1, up, s2, hnx, htk, hhd⟩ := Later.early hok (e := ⟨e.id, e.dead - 1, e.track⟩) hmy (fun y hy => ⟨by have := (hlat y hy).1; show e.dead - 1 + 1 ≤ y.dead; omega, (hlat y hy).2⟩) hl61
      obtain ⟨b0, b1, b2⟩ := (s7.blk 0 rfl).three
      have s8 : St w None _ [BlkR wb 32 #[.int .i64 e.id, .int .u64 e.dead, .int .i64 e.track], OQR q s', BlkR wc.heap.size 32 #[.int .i64 e.id, .int .u64 (e.dead - 1), .int .i64 e.track]] := St.box (L := [_, _]) s7 32 #[.int .i64 e.id, .int .u64 (e.dead - 1), .int .i64 e.track]
      have p8 := St.box (L := [_, _]) s7 32 #[.int .i64 e.id, .int .u64 e.dead, .int .i64 e.track]
      obtain ⟨a0, a1, a2⟩ : _ ∧ _ ∧ _ := (p8.blk 2 rfl).three
      have a3 := (p8.blk 2 rfl).frozen 1
      obtain ⟨o0, o1, o2⟩ : _ ∧ _ ∧ _ := (p8.blk 0 rfl).three
      obtain ⟨g0, g1, g2⟩ : _ ∧ _ ∧ _ := (s8.blk 2 rfl).three
      have CA := Lib.hid (Add_o s8 1 rfl hok (x := ⟨e.id, e.dead - 1, e.track⟩) (by show 0 ≤ e.dead - 1; omega) hadd)
      have HNX := Lib.hid hnx
      have HTK := Lib.hid htk
      have HHD := Lib.hid hhd
      have OK1 := Lib.hid hok1
      clear hadd hok hl61 hlat s7 s8 p8 hnx htk hhd hok1 hmy hy
      go_wp2_with fail
      refine CA.out.mono ?_
      rintro r' w8 ⟨rfl, t8⟩
      clear g0 g1 g2 a0 a1 a2 a3 o0 o1 o2 b0 b1 b2
      have CN := Lib.hid (Next_o t8 1 rfl OK1.out HNX.out)
      clear t8 CA
      go_wp2_with fail
      refine CN.out.mono ?_
      rintro r' w9 ⟨rfl, t9⟩
      have t9' : St w None _ [BlkR wb 32 #[.int .i64 e.id, .int .u64 e.dead, .int .i64 e.track], OQR q s1, BlkR wc.heap.size 32 #[.int .i64 e.id, .int .u64 (e.dead - 1), .int .i64 e.track], BlkR w9.heap.size 32 #[.int .i64 e.id, .int .u64 (e.dead - 1), .int .i64 e.track]] := St.box (L := [_, _, _]) t9 32 #[.int .i64 e.id, .int .u64 (e.dead - 1), .int .i64 e.track]
      have CT := Lib.hid (Take_o t9' 1 rfl OK1.out HTK.out)
      clear t9 t9' CN
      go_wp2_with fail
      refine CT.out.mono ?_
      rintro r' w10 ⟨rfl, t10⟩
      have t10' : St w None _ [BlkR wb 32 #[.int .i64 e.id, .int .u64 e.dead, .int .i64 e.track], OQR q s2, BlkR wc.heap.size 32 #[.int .i64 e.id, .int .u64 (e.dead - 1), .int .i64 e.track], BlkR w9.heap.size 32 #[.int .i64 e.id, .int .u64 (e.dead - 1), .int .i64 e.track], BlkR w10.heap.size 32 #[.int .i64 e.id, .int .u64 (e.dead - 1), .int .i64 e.track]] := St.box (L := [_, _, _, _]) t10 32 #[.int .i64 e.id, .int .u64 (e.dead - 1), .int .i64 e.track]
      have CH := Lib.hid (Head_o t10' 1 rfl)
      rw [HHD.out] at CH
      clear t10 t10' CT
      go_wp2_with fail
      refine CH.out.mono ?_
      rintro r' w11 ⟨rfl, t11⟩
      obtain ⟨g0, g1, g2⟩ := (t11.blk 2 rfl).three
      obtain ⟨i0, i1, i2⟩ := (t11.blk 3 rfl).three
      obtain ⟨j0, j1, j2⟩ := (t11.blk 4 rfl).three
      have SB := Lib.hid t11.below
      clear t11 CH
      have y1 : (e.id == e.id) = true := beq_self_eq_true _
      have y2 : ((e.dead - 1) == (e.dead - 1)) = true := beq_self_eq_true _
      have y3 : (e.track == e.track) = true := beq_self_eq_true _
      go_wp2_with fail
      go_ret
      exact ⟨rfl, SB.out⟩

set_option maxRecDepth 100000 in
theorem lifted (os : Os) (started : os.Started) (H : Type) (enc : TypeId × Value → H) :
    ReturnsInHanded {} Try.checked os 7 .any (Rows.orderEarlySpec.pre6 enc Try.prog Try.f7 Rows.orderEarlyRow.domain false) (Rows.orderEarlySpec.post enc Try.prog Try.f7 false true false false) := by
  refine law_lifted (C := Try.checked) (tb := 4) own started (by kernel_rfl) Try.func7
    (ChangeSpec.witness6 (enc := enc) (C := Try.checked) false ⟨#[], #[.slice none 0 0, .agg #[.int .i64 0, .int .u64 0, .int .i64 0]], []⟩ 8 (by kernel_rfl) (by kernel_rfl) (by kernel_rfl) (by kernel_rfl)) laid (by kernel_rfl) (by kernel_rfl) Try.underlying4 rfl ?_
  intro W base args ds ps hval0 hA0 hlt
  have hval : ∀ (j : Nat) t v, Try.f7.params[j]? = some t → args[j]? = some v → Value.okWide Try.prog W .any base t v := hval0
  have hA : DataW.TrodAll enc Try.prog W 0 (fun _ => true) true Try.f7.params.toList args.toList ds ps := hA0
  clear hA0 hval0
  rw [Try.params7] at hA hval
  obtain ⟨v0, vs0, d0, ds0, p0, q0, hargs, rfl, rfl, h0, r0⟩ := trodAll_cons hA
  obtain ⟨v1, vs1, d1, ds1, p1, q1, rfl, rfl, rfl, h1, r1⟩ := trodAll_cons r0
  obtain ⟨rfl, rfl, rfl⟩ := trodAll_nil r1
  obtain rfl : args = #[v0, v1] := by cases args; simp_all
  obtain ⟨A0, n0, cap0, V0, rfl, le0, mx0, rd0, lf0⟩ := open_slice_spots (m := 3) (d := 20) (l := [(0, 3), (1, 30), (2, 3)]) Try.underlying27 (by kernel_rfl) (by decide) (by kernel_rfl) (hval 0 27 v0 rfl rfl) h0
  have f0_0 := fun j hj => leaf_int Try.underlying3 (lf0 0 3 (by simp) j hj)
  have f0_1 := fun j hj => leaf_int Try.underlying30 (lf0 1 30 (by simp) j hj)
  have f0_2 := fun j hj => leaf_int Try.underlying3 (lf0 2 3 (by simp) j hj)
  obtain ⟨cs1, rfl, sz1, ok1⟩ := open_flat (ts := [3, 30, 3]) (Or.inl ⟨_, Try.underlying32⟩) (by kernel_rfl) (by kernel_rfl) (hval 1 32 v1 rfl rfl)
  obtain ⟨c1_0, c1_1, c1_2, rfl⟩ := size3 sz1
  obtain ⟨a1_0, rfl, w1_0⟩ := cell_int Try.underlying3 (ok1 0 _ _ rfl rfl)
  obtain ⟨a1_1, rfl, w1_1⟩ := cell_int Try.underlying30 (ok1 1 _ _ rfl rfl)
  obtain ⟨a1_2, rfl, w1_2⟩ := cell_int Try.underlying3 (ok1 2 _ _ rfl rfl)
  refine ⟨⟨rfl, rfl, rfl⟩, ?_⟩
  exact walk A0 n0 cap0 V0 ⟨a1_0, a1_1, a1_2⟩ W (by omega) (bounds_u64 w1_1).1 rd0 (fun j hj => by
    obtain ⟨x0, h0, -⟩ := f0_0 j hj
    obtain ⟨x1, h1, b1⟩ := f0_1 j hj
    obtain ⟨x2, h2, -⟩ := f0_2 j hj
    exact ⟨⟨x0, x1, x2⟩, h0, h1, h2, (bounds_u64 b1).1⟩)

theorem over : Rows.orderEarlyRow.holds Try.pinned (OpenSpec.ofChange Rows.orderEarlySpec) :=
  OpenClaim.holds_of_wide 7 Try.f7 rfl rfl rfl rfl rfl rfl rfl ⟨rfl, rfl, rfl, rfl, rfl⟩ rfl rfl rfl rfl rfl (by kernel_rfl) Try.func7 (by kernel_rfl)
    (of_decide_eq_true (by kernel_rfl)) (by unfold Func.isWrapper; first | (rw [if_pos (by decide +kernel)]; kernel_rfl) | (rw [if_neg (by decide +kernel)]; exact ⟨rfl, rfl⟩))
    (fun os started H enc _ => lifted os started H enc)
theorem proved : Rows.OrderEarlySaid := over
#print axioms proved
end Go.Proofs.Ytmikjbhhnndncaa.orderEarly
