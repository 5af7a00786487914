/-
  For every list of requests and number OrderDrop answers true, and changes nothing: whoever goes is never taken; the others are taken as if it had never been. No condition.
-/
import Derived.Test.YtmikjbhhnndncaaRows
import Derived.Test.YtmikjbhhnndncaaFr
import Derived.Test.YtmikjbhhnndncaaOrdB
import Derived.Deep.DeepCutAuto
import Derived.Deep.CutBlock
import Derived.Test.YtmikjbhhnndncaaOpen
import Derived.Test.YtmikjbhhnndncaaRd
namespace Go.Proofs.Ytmikjbhhnndncaa.orderDrop
open Go.ChangeShapes Go.WideShapes Go.ChangeAt Go.RowKit
set_option linter.unusedVariables false
theorem own : ownKnob Try.prog.godebug = none := by kernel_rfl
theorem laid : laidOutB Try.prog = true := by kernel_rfl
set_option maxRecDepth 100000
set_option maxHeartbeats 2000000
theorem walk (A : Option Addr) (n cap : Nat) (V : Nat → Nat → Value) (id : Int) (w : World) (hm : n ≤ maxLen) (rd : RdM w A n 3 V) (hV : ∀ j, j < n → ∃ x : Wt, V j 0 = .int .i64 x.id ∧ V j 1 = .int .u64 x.dead ∧ V j 2 = .int .i64 x.track ∧ 0 ≤ x.dead) :
    Calls Try.prog 5 #[.slice A n cap, .int .i64 id] w fun r w' => r = .returned (.bool true) ∧ Below w.heap.size w w' := by
  unfold maxLen at hm
  have RD := Lib.hid rd
  have HV := Lib.hid hV
  clear rd hV
  have AW := Lib.hid (awake_o (St.begin w))
  by_cases hbig : 64 < n
  · have d1 : decide (64 < (n : Int)) = true := decide_eq_true (by omega)
    have d1' : decide (64 < n) = true := decide_eq_true hbig
    go_enter Try.func5, Try.ntmps5
    go_wp2_with fail
    refine AW.out.mono ?_
    rintro r w1 ⟨rfl, s1⟩
    go_wp2_with fail
    go_ret
    exact ⟨rfl, s1.below⟩
  have d1 : decide (64 < (n : Int)) = false := decide_eq_false (by omega)
  have d1' : decide (64 < n) = false := decide_eq_false hbig
  go_enter Try.func5, Try.ntmps5
  go_wp2_with fail
  refine AW.out.mono ?_
  rintro r w1 ⟨rfl, s1⟩
  have N1 := Lib.hid (New_o s1)
  clear s1 AW
  go_wp2_with fail
  refine N1.out.mono ?_
  rintro r w2 ⟨a, rfl, s2⟩
  have N2 := Lib.hid (New_o s2)
  clear s2 N1
  go_wp2_with fail
  refine N2.out.mono ?_
  rintro r w3 ⟨b, rfl, s3⟩
  have S3 := Lib.hid (show St w None w3 [OQR a OSt.new, OQR b (OSt.new.sans id)] from s3)
  clear s3 N2
  go_wp2_with fail
  go_loopw [7, 8] (fun t i wr => ∃ (k : Nat) (s : OSt) (th : Bool), k ≤ n ∧ i = .int .i64 k ∧ t = .bool th ∧ th = decide (∃ y ∈ s.l, y.id = id) ∧ s.ok ∧ s.l.length ≤ k ∧ St w None wr [OQR a s, OQR b (s.sans id)]) (fun _ i _ => n - (intOf i).toNat)
  case atStart => exact ⟨0, OSt.new, false, by omega, rfl, rfl, by simp [OSt.new], OSt.new_ok, by simp [OSt.new], S3.out⟩
  case round =>
  clear S3
  obtain ⟨k, s, th, hk, rfl, rfl, hth, hok, hlen, sr⟩ := hrel
  by_cases hkn : k < n
  · obtain ⟨x, v0, v1, v2, hx0⟩ := HV.out k hkn
    have hat := fun (W : World) (K : Below w.heap.size w W) => RD.out.at3 K hkn
    obtain ⟨ib, off, rfl, e0, e1, e2⟩ := hat _ sr.below
    rw [v0] at e0
    rw [v1] at e1
    rw [v2] at e2
    have CE := Lib.hid (fun (W : World) (K : Below w.heap.size w W) => show W.cell? ⟨ib, off + k * 3, none⟩ = some (.int .i64 x.id) ∧ W.cell? ⟨ib, off + k * 3 + 1, none⟩ = some (.int .u64 x.dead) ∧ W.cell? ⟨ib, off + k * 3 + 2, none⟩ = some (.int .i64 x.track) from by
      obtain ⟨ib', off', he, g0, g1, g2⟩ := hat _ K
      obtain ⟨rfl, rfl⟩ : ib = ib' ∧ off = off' := by simpa using he
      exact ⟨g0.trans (by rw [v0]), g1.trans (by rw [v1]), g2.trans (by rw [v2])⟩)
    have t0 : decide ((k : Int) < (n : Int)) = true := decide_eq_true (by omega)
    have t0' : decide (k < n) = true := decide_eq_true hkn
    obtain ⟨f, s', hP⟩ := addP_ex s x
    have CA := Lib.hid (Add_o sr 0 rfl hok hx0 hP)
    have OK' := Lib.hid (hP.ok hok)
    have HP := Lib.hid hP
    have OK := Lib.hid hok
    have HLE := Lib.hid (Nat.le_trans hP.len (Nat.succ_le_succ hlen))
    have HTH := Lib.hid hth
    have HLN := Lib.hid hlen
    clear hat hP hok sr hth v0 v1 v2 hlen
    go_wp2_with fail
    refine CA.out.mono ?_
    rintro r' w4 ⟨rfl, s4'⟩
    have s4 : St w None w4 [OQR a s', OQR b (s.sans id)] := s4'
    obtain ⟨g0, g1, g2⟩ := CE.out _ s4.below
    clear e0 e1 e2 CA s4'
    by_cases hid : x.id = id
    · subst hid
      have z1 : (x.id != x.id) = false := by simp
      obtain ⟨hsame, hcase⟩ := HP.out.same
      rw [← hsame] at s4
      have S4 := Lib.hid s4
      clear s4 hsame
      rcases hcase with ⟨rfl, hy⟩ | ⟨hf, rfl⟩
      · have HTR := Lib.hid (show true = decide (∃ y ∈ s'.l, y.id = x.id) from (decide_eq_true hy).symm)
        clear hy HP
        go_wp2_with fail
        go_roundw
        case rel => exact ⟨k + 1, s', true, by omega, by go_num, rfl, HTR.out, OK'.out, HLE.out, S4.out⟩
        case measure => simp [intOf]; omega
      · have z2 : (f == 0) = false := beq_eq_false_iff_ne.2 hf
        clear HP hf
        go_wp2_with fail
        go_roundw
        case rel => exact ⟨k + 1, _, th, by omega, by go_num, rfl, HTH.out, OK'.out, HLE.out, S4.out⟩
        case measure => simp [intOf]; omega
    · have z1 : (x.id != id) = true := by simp [hid]
      have CB := Lib.hid (Add_o s4 1 rfl (OK.out.sans id) hx0 (HP.out.sans hid (by have := HLN.out; omega)))
      have HTR := Lib.hid (show th = decide (∃ y ∈ s'.l, y.id = id) from by rw [HTH.out]; exact decide_eq_decide.2 (HP.out.mem hid).symm)
      have z2 : (f != f) = false := by simp
      clear s4 HP hid
      go_wp2_with fail
      refine CB.out.mono ?_
      rintro r' w5 ⟨rfl, s5⟩
      have S5 := Lib.hid s5
      clear CB s5 g0 g1 g2
      go_wp2_with fail
      go_roundw
      case rel => exact ⟨k + 1, s', th, by omega, by go_num, rfl, HTR.out, OK'.out, HLE.out, S5.out⟩
      case measure => simp [intOf]; omega
  · have t0 : decide ((k : Int) < (n : Int)) = false := decide_eq_false (by omega)
    have t0' : decide (k < n) = false := decide_eq_false hkn
    have DC := Lib.hid (Drop_o sr 0 rfl hok (drop_sans hok id))
    have OK := Lib.hid (hok.sans id)
    have HID := Lib.hid (show ∀ y ∈ (s.sans id).l, y.id ≠ id from fun y hy => (sans_mem.1 hy).2)
    obtain ⟨fd, hfd⟩ : ∃ fd : Int, fd = (if ∃ y ∈ s.l, y.id = id then 0 else 6) := ⟨_, rfl⟩
    rw [← hfd] at DC
    have z1 : (fd == 0) = th := by
      rw [hth, hfd]
      by_cases h : ∃ y ∈ s.l, y.id = id
      · rw [if_pos h, decide_eq_true h]; rfl
      · rw [if_neg h, decide_eq_false h]; rfl
    generalize s.sans id = s2 at *
    clear hth hfd hok hlen sr
    have z2 : (th != th) = false := by simp
    go_wp2_with fail
    refine DC.out.mono ?_
    rintro r' w4 ⟨rfl, s4⟩
    have S4 := Lib.hid (show St w None w4 [OQR a s2, OQR b s2] from s4)
    clear DC s4
    go_wp2_with fail
    go_loopw [10] (fun i wr => ∃ (m : Nat) (s : OSt), m ≤ 65 ∧ i = .int .i64 m ∧ s.ok ∧ (∀ y ∈ s.l, y.id ≠ id) ∧ St w None wr [OQR a s, OQR b s]) (fun i _ => 65 - (intOf i).toNat)
    case atStart => exact ⟨0, s2, by omega, rfl, OK.out, HID.out, S4.out⟩
    case round =>
    clear S4 OK HID z1 z2
    obtain ⟨m, s, hm65, rfl, hok, hid, sr⟩ := hrel
    by_cases hm2 : m < 65
    · have u0 : decide ((m : Int) < 65) = true := decide_eq_true (by omega)
      have u0' : decide (m < 65) = true := decide_eq_true hm2
      obtain ⟨x, f, s', hT⟩ := takeP_ex hok
      have CA := Lib.hid (Take_o sr 0 rfl hok hT)
      have HT := Lib.hid hT
      have OK := Lib.hid hok
      have OK' := Lib.hid (hT.ok hok)
      have HID' := Lib.hid (show ∀ y ∈ s'.l, y.id ≠ id from fun y hy => hid y (hT.sub.1 y hy))
      have hxi : f = 0 → x.id ≠ id := fun h => hid x (hT.sub.2 h)
      have hcode := hT.code
      have HXI := Lib.hid hxi
      clear hT hok sr hid hxi
      go_wp2_with fail
      refine CA.out.mono ?_
      rintro r' w5 ⟨rfl, s5'⟩
      have s5 : St w None (w5.alloc (.cells #[.int .i64 x.id, .int .u64 x.dead, .int .i64 x.track] 32)) [OQR a s', OQR b s, BlkR w5.heap.size 32 #[.int .i64 x.id, .int .u64 x.dead, .int .i64 x.track]] := St.box (L := [_, _]) s5' _ _
      have CB := Lib.hid (Take_o s5 1 rfl OK.out HT.out)
      clear CA s5' s5 HT OK
      go_wp2_with fail
      refine CB.out.mono ?_
      rintro r' w6 ⟨rfl, s6'⟩
      have s6 : St w None (w6.alloc (.cells #[.int .i64 x.id, .int .u64 x.dead, .int .i64 x.track] 32)) [OQR a s', OQR b s', BlkR w5.heap.size 32 #[.int .i64 x.id, .int .u64 x.dead, .int .i64 x.track], BlkR w6.heap.size 32 #[.int .i64 x.id, .int .u64 x.dead, .int .i64 x.track]] := St.box (L := [_, _, _]) s6' _ _
      obtain ⟨b0, b1, b2⟩ := (s6.blk 2 rfl).three
      obtain ⟨c0, c1, c2⟩ := (s6.blk 3 rfl).three
      have S6 := Lib.hid (s6.take 2)
      clear CB s6 s6'
      have y1 : (x.id == x.id) = true := beq_self_eq_true _
      have y2 : (x.dead == x.dead) = true := beq_self_eq_true _
      have y3 : (x.track == x.track) = true := beq_self_eq_true _
      have y4 : (f != f) = false := by simp
      rcases hcode with rfl | rfl
      · have y5 : (x.id == id) = false := beq_eq_false_iff_ne.2 (HXI.out rfl)
        go_wp2_with fail
        go_roundw
        case rel => exact ⟨m + 1, s', by omega, by go_num, OK'.out, HID'.out, S6.out⟩
        case measure => simp [intOf]; omega
      · go_wp2_with fail
        go_roundw
        case rel => exact ⟨m + 1, s', by omega, by go_num, OK'.out, HID'.out, S6.out⟩
        case measure => simp [intOf]; omega
    · have u0 : decide ((m : Int) < 65) = false := decide_eq_false (by omega)
      have u0' : decide (m < 65) = false := decide_eq_false hm2
      go_wp2_with fail
      go_ret
      exact ⟨rfl, sr.below⟩

set_option maxRecDepth 100000 in
theorem lifted (os : Os) (started : os.Started) (H : Type) (enc : TypeId × Value → H) :
    ReturnsInHanded {} Try.checked os 5 .any (Rows.orderDropSpec.pre6 enc Try.prog Try.f5 Rows.orderDropRow.domain false) (Rows.orderDropSpec.post enc Try.prog Try.f5 false true false false) := by
  refine law_lifted (C := Try.checked) (tb := 4) own started (by kernel_rfl) Try.func5
    (ChangeSpec.witness6 (enc := enc) (C := Try.checked) false ⟨#[], #[.slice none 0 0, .int .i64 0], []⟩ 8 (by kernel_rfl) (by kernel_rfl) (by kernel_rfl) (by kernel_rfl)) laid (by kernel_rfl) (by kernel_rfl) Try.underlying4 rfl ?_
  intro W base args ds ps hval0 hA0 hlt
  have hval : ∀ (j : Nat) t v, Try.f5.params[j]? = some t → args[j]? = some v → Value.okWide Try.prog W .any base t v := hval0
  have hA : DataW.TrodAll enc Try.prog W 0 (fun _ => true) true Try.f5.params.toList args.toList ds ps := hA0
  clear hA0 hval0
  rw [Try.params5] at hA hval
  obtain ⟨v0, vs0, d0, ds0, p0, q0, hargs, rfl, rfl, h0, r0⟩ := trodAll_cons hA
  obtain ⟨v1, vs1, d1, ds1, p1, q1, rfl, rfl, rfl, h1, r1⟩ := trodAll_cons r0
  obtain ⟨rfl, rfl, rfl⟩ := trodAll_nil r1
  obtain rfl : args = #[v0, v1] := by cases args; simp_all
  obtain ⟨A0, n0, cap0, V0, rfl, le0, mx0, rd0, lf0⟩ := open_slice_spots (m := 3) (d := 20) (l := [(0, 3), (1, 30), (2, 3)]) Try.underlying27 (by kernel_rfl) (by decide) (by kernel_rfl) (hval 0 27 v0 rfl rfl) h0
  have f0_0 := fun j hj => leaf_int Try.underlying3 (lf0 0 3 (by simp) j hj)
  have f0_1 := fun j hj => leaf_int Try.underlying30 (lf0 1 30 (by simp) j hj)
  have f0_2 := fun j hj => leaf_int Try.underlying3 (lf0 2 3 (by simp) j hj)
  obtain ⟨a1, rfl, rfl, rfl, w1⟩ := open_int Try.underlying3 (hval 1 3 v1 rfl rfl) h1
  refine ⟨⟨rfl, rfl, rfl⟩, ?_⟩
  exact walk A0 n0 cap0 V0 a1 W (by omega) rd0 (fun j hj => by
    obtain ⟨x0, h0, -⟩ := f0_0 j hj
    obtain ⟨x1, h1, b1⟩ := f0_1 j hj
    obtain ⟨x2, h2, -⟩ := f0_2 j hj
    exact ⟨⟨x0, x1, x2⟩, h0, h1, h2, (bounds_u64 b1).1⟩)

theorem over : Rows.orderDropRow.holds Try.pinned (OpenSpec.ofChange Rows.orderDropSpec) :=
  OpenClaim.holds_of_wide 5 Try.f5 rfl rfl rfl rfl rfl rfl rfl ⟨rfl, rfl, rfl, rfl, rfl⟩ rfl rfl rfl rfl rfl (by kernel_rfl) Try.func5 (by kernel_rfl)
    (of_decide_eq_true (by kernel_rfl)) (by unfold Func.isWrapper; first | (rw [if_pos (by decide +kernel)]; kernel_rfl) | (rw [if_neg (by decide +kernel)]; exact ⟨rfl, rfl⟩))
    (fun os started H enc _ => lifted os started H enc)
theorem proved : Rows.OrderDropSaid := over
#print axioms proved
end Go.Proofs.Ytmikjbhhnndncaa.orderDrop
