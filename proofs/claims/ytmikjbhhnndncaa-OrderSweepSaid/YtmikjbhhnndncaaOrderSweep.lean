/-
  For every list of tracks and head OrderSweep answers true, and changes nothing: requests of one time are taken up to the last one above the head, by rising tracks, and then down, by falling ones. No condition.
-/
import Derived.Test.YtmikjbhhnndncaaRows
import Derived.Test.YtmikjbhhnndncaaFr
import Derived.Test.YtmikjbhhnndncaaOrdS
import Derived.Deep.DeepCutAuto
namespace Go.Proofs.Ytmikjbhhnndncaa.orderSweep
open Go.ChangeShapes Go.WideShapes Go.ChangeAt Go.RowKit
set_option linter.unusedVariables false
theorem own : ownKnob Try.prog.godebug = none := by kernel_rfl
theorem laid : laidOutB Try.prog = true := by kernel_rfl
set_option maxRecDepth 100000
set_option maxHeartbeats 2000000
theorem walk (A : Option Addr) (n cap : Nat) (f : Nat → Int) (h : Int) (w : World) (hm : n ≤ maxLen) (rd : Rd w A n (fun j => .int .u16 (f j))) (hf : ∀ j, 0 ≤ f j ∧ f j ≤ 65535) (hh : 0 ≤ h ∧ h ≤ 65535) :
    Calls Try.prog 6 #[.slice A n cap, .int .u16 h] w fun r w' => r = .returned (.bool true) ∧ Below w.heap.size w w' := by
  unfold maxLen at hm
  have RD := Lib.hid rd
  have HF := Lib.hid hf
  clear rd hf
  have AW := Lib.hid (awake_o (St.begin w))
  by_cases hbig : 40 < n
  · have d1 : decide (40 < (n : Int)) = true := decide_eq_true (by omega)
    have d1' : decide (40 < n) = true := decide_eq_true hbig
    go_enter Try.func6, Try.ntmps6
    go_wp2_with fail
    refine AW.out.mono ?_
    rintro r w1 ⟨rfl, s1⟩
    go_wp2_with fail
    go_ret
    exact ⟨rfl, s1.below⟩
  have d1 : decide (40 < (n : Int)) = false := decide_eq_false (by omega)
  have d1' : decide (40 < n) = false := decide_eq_false hbig
  have hw1 : IntKind.i64.wrap h = h := IntWalk.i64_in _ ⟨by omega, by omega⟩
  have OK1 := Lib.hid ((hd_add h hh).ok OSt.new_ok)
  have HA := Lib.hid (hd_add h hh)
  have HT := Lib.hid (hd_take h hh.1)
  have OK2 := Lib.hid ((hd_take h hh.1).ok OK1.out)
  go_enter Try.func6, Try.ntmps6
  go_wp2_with fail
  refine AW.out.mono ?_
  rintro r w1 ⟨rfl, s1⟩
  have N1 := Lib.hid (New_o s1)
  clear s1 AW
  go_wp2_with fail
  refine N1.out.mono ?_
  rintro r w2 ⟨q, rfl, s2'⟩
  have s2 : St w None w2 [OQR q OSt.new] := s2'
  have A1 := Lib.hid (Add_o s2 0 rfl OSt.new_ok (x := ⟨100, 0, h⟩) (by show (0:Int) ≤ 0; omega) HA.out)
  clear s2 s2' N1
  go_wp2_with fail
  refine A1.out.mono ?_
  rintro r w3 ⟨rfl, s3⟩
  have T1 := Lib.hid (Take_o s3 0 rfl OK1.out HT.out)
  clear s3 A1
  go_wp2_with fail
  refine T1.out.mono ?_
  rintro r w4 ⟨rfl, s4⟩
  have S4 := Lib.hid (show St w None w4 [OQR q (trs f h 0)] from s4)
  clear s4 T1 HA HT
  go_wp2_with fail
  go_loopw [6] (fun i wr => ∃ k : Nat, k ≤ n ∧ i = .int .i64 k ∧ (trs f h k).ok ∧ St w None wr [OQR q (trs f h k)]) (fun i _ => n - (intOf i).toNat)
  case atStart => exact ⟨0, by omega, rfl, OK2.out, S4.out⟩
  case round =>
  clear S4 OK2 OK1
  obtain ⟨k, hk, rfl, hok, sr⟩ := hrel
  by_cases hkn : k < n
  · obtain ⟨ib, off, rfl, hib, hrd⟩ := RD.out (by omega)
    have e0 : wr.cell? ⟨ib, off + k, none⟩ = some (.int .u16 (f k)) := (sr.below.cell (p := ⟨ib, off + k, none⟩) hib).trans (hrd k hkn)
    have hfk := HF.out k
    have hw2 : IntKind.i64.wrap (f k) = f k := IntWalk.i64_in _ ⟨by omega, by omega⟩
    have t0 : decide ((k : Int) < (n : Int)) = true := decide_eq_true (by omega)
    have t0' : decide (k < n) = true := decide_eq_true hkn
    have hadd := trs_add f h (show k < 40 by omega) hfk
    have A1 := Lib.hid (Add_o sr 0 rfl hok (x := ⟨(k : Int), 5, f k⟩) (by show (0:Int) ≤ 5; omega) hadd)
    have OK' := Lib.hid (hadd.ok hok)
    clear sr hrd hadd hok
    go_wp2_with fail
    refine A1.out.mono ?_
    rintro r' w5 ⟨rfl, s5⟩
    have S5 := Lib.hid (show St w None w5 [OQR q (trs f h (k + 1))] from s5)
    clear A1 s5 e0
    go_wp2_with fail
    go_roundw
    case rel => exact ⟨k + 1, by omega, by go_num, OK'.out, S5.out⟩
    case measure => simp [intOf]; omega
  · obtain rfl : k = n := by omega
    have t0 : decide ((k : Int) < (k : Int)) = false := decide_eq_false (by omega)
    have t0' : decide (k < k) = false := decide_eq_false (by omega)
    have SW := Lib.hid (trs_sweep f h hok)
    have SR := Lib.hid sr
    clear sr hkn hok
    go_wp2_with fail
    go_loopw [7, 8, 9] (fun l d i wr => ∃ (m : Nat) (last : Int) (dn : Bool) (s : OSt), m ≤ k ∧ i = .int .i64 m ∧ l = .int .i64 last ∧ d = .bool dn ∧ Sweep s h last dn (k - m) ∧ St w None wr [OQR q s]) (fun _ _ i _ => k - (intOf i).toNat)
    case atStart => exact ⟨0, h, false, _, by omega, rfl, rfl, rfl, SW.out, SR.out⟩
    case round =>
    clear SW SR
    obtain ⟨m, last, dn, s, hmk, rfl, rfl, rfl, hS, sr⟩ := hrel
    by_cases hmk2 : m < k
    · have t1 : decide ((m : Int) < (k : Int)) = true := decide_eq_true (by omega)
      have t1' : decide (m < k) = true := decide_eq_true hmk2
      rw [show k - m = (k - (m + 1)) + 1 by omega] at hS
      obtain ⟨x, s', d', hT, hS', hcase⟩ := hS.next
      have CA := Lib.hid (Take_o sr 0 rfl hS.ok hT)
      have HS' := Lib.hid hS'
      clear sr hT hS hS'
      rcases hcase with ⟨rfl, rfl, hle⟩ | ⟨rfl, rfl, hle⟩ | ⟨rfl, rfl, hlt2, hlh⟩
      · have z1 : decide (last < x.track) = false := decide_eq_false (by omega)
        go_wp2_with fail
        refine CA.out.mono ?_
        rintro r' w5 ⟨rfl, s5'⟩
        have s5 : St w None (w5.alloc (.cells #[.int .i64 x.id, .int .u64 x.dead, .int .i64 x.track] 32)) [OQR q s', BlkR w5.heap.size 32 #[.int .i64 x.id, .int .u64 x.dead, .int .i64 x.track]] := St.box (L := [_]) s5' _ _
        obtain ⟨b0, b1, b2⟩ := (s5.blk 1 rfl).three
        have S5 := Lib.hid (s5.take 1)
        clear CA s5 s5'
        go_wp2_with fail
        go_roundw
        case rel => exact ⟨m + 1, x.track, _, s', by omega, by go_num, rfl, rfl, HS'.out, S5.out⟩
        case measure => simp [intOf]; omega
      · have z1 : decide (x.track < last) = false := decide_eq_false (by omega)
        go_wp2_with fail
        refine CA.out.mono ?_
        rintro r' w5 ⟨rfl, s5'⟩
        have s5 : St w None (w5.alloc (.cells #[.int .i64 x.id, .int .u64 x.dead, .int .i64 x.track] 32)) [OQR q s', BlkR w5.heap.size 32 #[.int .i64 x.id, .int .u64 x.dead, .int .i64 x.track]] := St.box (L := [_]) s5' _ _
        obtain ⟨b0, b1, b2⟩ := (s5.blk 1 rfl).three
        have S5 := Lib.hid (s5.take 1)
        clear CA s5 s5'
        go_wp2_with fail
        go_roundw
        case rel => exact ⟨m + 1, x.track, _, s', by omega, by go_num, rfl, rfl, HS'.out, S5.out⟩
        case measure => simp [intOf]; omega
      · have z1 : decide (x.track < last) = true := decide_eq_true hlt2
        have z2 : decide (h ≤ x.track) = false := decide_eq_false (by omega)
        go_wp2_with fail
        refine CA.out.mono ?_
        rintro r' w5 ⟨rfl, s5'⟩
        have s5 : St w None (w5.alloc (.cells #[.int .i64 x.id, .int .u64 x.dead, .int .i64 x.track] 32)) [OQR q s', BlkR w5.heap.size 32 #[.int .i64 x.id, .int .u64 x.dead, .int .i64 x.track]] := St.box (L := [_]) s5' _ _
        obtain ⟨b0, b1, b2⟩ := (s5.blk 1 rfl).three
        have S5 := Lib.hid (s5.take 1)
        clear CA s5 s5'
        go_wp2_with fail
        go_roundw
        case rel => exact ⟨m + 1, x.track, _, s', by omega, by go_num, rfl, rfl, HS'.out, S5.out⟩
        case measure => simp [intOf]; omega
    · have t1 : decide ((m : Int) < (k : Int)) = false := decide_eq_false (by omega)
      have t1' : decide (m < k) = false := decide_eq_false hmk2
      go_wp2_with fail
      go_ret
      exact ⟨rfl, sr.below⟩

set_option maxRecDepth 100000 in
theorem lifted (os : Os) (started : os.Started) (H : Type) (enc : TypeId × Value → H) :
    ReturnsInHanded {} Try.checked os 6 .any (Rows.orderSweepSpec.pre6 enc Try.prog Try.f6 Rows.orderSweepRow.domain false) (Rows.orderSweepSpec.post enc Try.prog Try.f6 false true false false) := by
  refine law_lifted (C := Try.checked) (tb := 4) own started (by kernel_rfl) Try.func6
    (ChangeSpec.witness6 (enc := enc) (C := Try.checked) false ⟨#[], #[.slice none 0 0, .int .u16 0], []⟩ 8 (by kernel_rfl) (by kernel_rfl) (by kernel_rfl) (by kernel_rfl)) laid (by kernel_rfl) (by kernel_rfl) Try.underlying4 rfl ?_
  intro W base args ds ps hval0 hA0 hlt
  have hval : ∀ (j : Nat) t v, Try.f6.params[j]? = some t → args[j]? = some v → Value.okWide Try.prog W .any base t v := hval0
  have hA : DataW.TrodAll enc Try.prog W 0 (fun _ => true) true Try.f6.params.toList args.toList ds ps := hA0
  clear hA0 hval0
  rw [Try.params6] at hA hval
  obtain ⟨v0, vs0, d0, ds0, p0, q0, hargs, rfl, rfl, h0, r0⟩ := trodAll_cons hA
  obtain ⟨v1, vs1, d1, ds1, p1, q1, rfl, rfl, rfl, h1, r1⟩ := trodAll_cons r0
  obtain ⟨rfl, rfl, rfl⟩ := trodAll_nil r1
  obtain rfl : args = #[v0, v1] := by cases args; simp_all
  obtain ⟨A0, n0, cap0, f0, rfl, le0, mx0, wf0, rd0⟩ := open_slice_ints Try.underlying48 Try.underlying49 (by kernel_rfl) (hval 0 48 v0 rfl rfl) h0
  obtain ⟨a1, rfl, rfl, rfl, w1⟩ := open_int Try.underlying49 (hval 1 49 v1 rfl rfl) h1
  refine ⟨⟨rfl, rfl, rfl⟩, ?_⟩
  exact walk A0 n0 cap0 f0 a1 W (by omega) rd0 (fun j => bounds_u16 (wf0 j)) (bounds_u16 w1)

theorem over : Rows.orderSweepRow.holds Try.pinned (OpenSpec.ofChange Rows.orderSweepSpec) :=
  OpenClaim.holds_of_wide 6 Try.f6 rfl rfl rfl rfl rfl rfl rfl ⟨rfl, rfl, rfl, rfl, rfl⟩ rfl rfl rfl rfl rfl (by kernel_rfl) Try.func6 (by kernel_rfl)
    (of_decide_eq_true (by kernel_rfl)) (by unfold Func.isWrapper; first | (rw [if_pos (by decide +kernel)]; kernel_rfl) | (rw [if_neg (by decide +kernel)]; exact ⟨rfl, rfl⟩))
    (fun os started H enc _ => lifted os started H enc)
theorem proved : Rows.OrderSweepSaid := over
#print axioms proved
end Go.Proofs.Ytmikjbhhnndncaa.orderSweep
