/-
  For every list of unsigned 16-bit numbers WheelNow answers true, and changes nothing: as the time goes on tick by tick each timer goes off in its tick, alike ones by rising numbers. No condition.
-/
import Derived.Test.YtklajkjmecfkpaaRows
import Derived.Test.YtklajkjmecfkpaaFr
import Derived.Test.YtklajkjmecfkpaaWhL
namespace Go.Proofs.Ytklajkjmecfkpaa.wheelNow
open Go.ChangeShapes Go.WideShapes Go.ChangeAt Go.RowKit
set_option linter.unusedVariables false
theorem own : ownKnob Try.prog.godebug = none := by kernel_rfl
theorem laid : laidOutB Try.prog = true := by kernel_rfl
set_option maxRecDepth 100000
set_option maxHeartbeats 4000000
theorem walk (A : Option Addr) (n cap : Nat) (f : Nat → Int) (w : World) (hm : n ≤ maxLen) (rd : Rd w A n (fun j => .int .u16 (f j))) (hf : ∀ j, 0 ≤ f j ∧ f j ≤ 65535) :
    Calls Try.prog 6 #[.slice A n cap] w fun r w' => r = .returned (.bool true) ∧ Below w.heap.size w w' := by
  unfold maxLen at hm
  have RD := Lib.hid rd
  have HF := Lib.hid hf
  clear rd hf
  by_cases hbig : 100 < n
  · have d1 : decide (100 < (n : Int)) = true := decide_eq_true (by omega)
    have d1' : decide (100 < n) = true := decide_eq_true hbig
    go_enter Try.func6, Try.ntmps6
    go_wp2_with fail
    refine (awake_c _).mono ?_
    rintro e w1 ⟨rfl, b1⟩
    go_wp2_with fail
    go_ret
    exact ⟨rfl, b1⟩
  have d1 : decide (100 < (n : Int)) = false := decide_eq_false (by omega)
  have d1' : decide (100 < n) = false := decide_eq_false hbig
  go_enter Try.func6, Try.ntmps6
  go_wp2_with fail
  refine (awake_c _).mono ?_
  rintro e w1 ⟨rfl, b1⟩
  have S1 := Lib.hid ((St.begin w).stay b1)
  clear b1
  go_wp2_with fail
  refine (New_k S1.out).mono ?_
  rintro e w2 ⟨c, bw, rfl, k2⟩
  have K2 := Lib.hid k2
  clear k2 S1
  obtain ⟨g, hg⟩ : ∃ g : Nat → Int, g = fun i => 1 + f i % 300 := ⟨_, rfl⟩
  have HG := Lib.hid hg
  have GB := Lib.hid (show ∀ i, 1 ≤ g i ∧ g i ≤ 300 from fun i => by rw [hg]; dsimp only; omega)
  clear hg
  go_wp2_with fail
  go_loopw [4] (fun i wr => ∃ k : Nat, k ≤ n ∧ i = .int .i64 k ∧ Wk w None c bw 0 (tmN g k) [] wr) (fun i _ => n - (intOf i).toNat)
  case atStart => exact ⟨0, by omega, rfl, by rw [tmN_zero]; exact K2.out⟩
  case round =>
  clear K2
  obtain ⟨k, hk, rfl, sr⟩ := hrel
  by_cases hlt : k < n
  · obtain ⟨ib, off, rfl, hib, hrd⟩ := RD.out (by omega)
    have e0 : wr.cell? ⟨ib, off + k, none⟩ = some (.int .u16 (f k)) := (sr.below.cell (p := ⟨ib, off + k, none⟩) hib).trans (hrd k hlt)
    have hfk := HF.out k
    have hgk : g k = 1 + f k % 300 := by rw [HG.out]
    obtain ⟨r, hr⟩ : ∃ r, f k % 300 = r := ⟨_, rfl⟩
    have r0 : 0 ≤ r ∧ r < 300 := by omega
    have h1 : Int.tmod (f k) 300 = r := by rw [Int.tmod_eq_emod_of_nonneg (by omega)]; exact hr
    obtain ⟨s1, s2⟩ := tmN_set g (k := k) (by omega) (x := 1 + r) (by rw [hgk, hr]) (by omega) (by omega)
    have TS := Lib.hid s2
    have TA := Lib.hid s1
    have SR := Lib.hid sr
    clear hrd sr hgk s1 s2
    generalize f k = fk at *
    go_wp2_with fail
    refine (Set_k SR.out (by omega)).mono ?_
    rintro e w3 ⟨rfl, k3⟩
    rw [TS.out] at k3
    rw [TA.out]
    have K3 := Lib.hid k3
    clear k3 SR
    go_wp2_with fail
    go_roundw
    case rel => exact ⟨k + 1, by omega, by go_num, K3.out⟩
    case measure => simp [intOf]; omega
  · obtain rfl : k = n := by omega
    have z1 : decide ((k : Int) < (k : Int)) = false := decide_eq_false (by omega)
    have SR := Lib.hid sr
    clear sr hlt
    go_wp2_with fail
    go_loopw [5, 6, 7, 8, 9] (fun i x6 x7 x8 x9 wr => ∃ t : Int, 1 ≤ t ∧ t ≤ 301 ∧ i = .int .i64 t ∧ Wk w None c bw (t - 1) (aft (tmN g k) (t - 1)) [] wr) (fun i _ _ _ _ _ => 301 - (intOf i).toNat)
    case atStart => exact ⟨1, by omega, by omega, rfl, by
      rw [show (1 : Int) - 1 = 0 from rfl, aft_like fun i a h => by obtain ⟨j, -, -, rfl⟩ := tmN_some h; have := GB.out j; omega]
      exact SR.out⟩
    case round =>
    clear SR z1
    obtain ⟨t, ht1, ht2, rfl, sr⟩ := hrel
    by_cases hlt : t ≤ 300
    · have z2 : decide (t ≤ 300) = true := decide_eq_true hlt
      have z3 : IntKind.u64.wrap t = t := IntWalk.u64_in _ ⟨by omega, by omega⟩
      obtain ⟨q1, q2, q3⟩ := go_ok (now := t - 1) (u := t) (by omega) (by omega) (aft (tmN g k) (t - 1))
      rw [aft_aft (by omega)] at q3
      have Q1 := Lib.hid q1
      have Q2 := Lib.hid q2
      have Q3 := Lib.hid q3
      have OP := Lib.hid (goP_ok (now := t - 1) (u := t) (by omega) (by omega) (offN g k t))
      have SR := Lib.hid sr
      clear q1 q2 q3 sr
      go_wp2_with fail
      refine (Go_k SR.out (by omega)).mono ?_
      rintro e w4 ⟨A4, n4, c4, o4, rfl, g4, hn4, -, k4⟩
      obtain rfl := g4.uniq OP.out
      rw [Q2.out, Q3.out] at k4
      rw [Q1.out]
      rw [fl_len] at hn4
      have HN4 := Lib.hid hn4
      have K4 := Lib.hid k4
      clear k4 SR g4 OP hn4 Q1 Q2 Q3
      go_wp2_with fail
      refine (Now_k K4.out).mono ?_
      rintro e w5 ⟨rfl, k5⟩
      have K5 := Lib.hid k5
      clear k5 K4
      go_wp2_with fail
      go_loopw [8, 9] (fun x8 x9 wr => ∃ m : Nat, m ≤ k ∧ x9 = .int .i64 m ∧ x8 = .int .i64 (cf (fun i => decide (g i = t)) m : Nat) ∧ Wk w None c bw t (aft (tmN g k) t) ([] ++ [LisR 3 1 (.slice A4 n4 c4) n4 (iv (fl (fun i => decide (g i = t)) k))]) wr) (fun _ i _ => k - (intOf i).toNat)
      case atStart => exact ⟨0, by omega, rfl, rfl, K5.out⟩
      case round =>
      clear K5
      obtain ⟨m, hmk, rfl, rfl, sr⟩ := hrel
      by_cases hlt : m < k
      · have y1 : decide ((m : Int) < (k : Int)) = true := decide_eq_true (by omega)
        have y1' : decide (m < k) = true := decide_eq_true hlt
        obtain ⟨ib, off, rfl, hib, hrd⟩ := RD.out (by omega)
        have e0 : wr.cell? ⟨ib, off + m, none⟩ = some (.int .u16 (f m)) := (sr.below.cell (p := ⟨ib, off + m, none⟩) hib).trans (hrd m hlt)
        have hfk := HF.out m
        have hgk : g m = 1 + f m % 300 := by rw [HG.out]
        obtain ⟨r, hr⟩ : ∃ r, f m % 300 = r := ⟨_, rfl⟩
        have r0 : 0 ≤ r ∧ r < 300 := by omega
        have h1 : Int.tmod (f m) 300 = r := by rw [Int.tmod_eq_emod_of_nonneg (by omega)]; exact hr
        rw [hr] at hgk
        have CS := Lib.hid (cf_succ (fun i => decide (g i = t)) m)
        by_cases he : 1 + r = t
        · have y2 : (1 + r == t) = true := by simpa using he
          have hP : (fun i => decide (g i = t)) m = true := decide_eq_true (by rw [hgk, he])
          have hc := cf_lt (fun i => decide (g i = t)) hlt hP
          have hat := fl_at (fun i => decide (g i = t)) hlt hP
          have hq : cf (fun i => decide (g i = t)) (m + 1) = cf (fun i => decide (g i = t)) m + 1 := by rw [CS.out, if_pos hP]
          have HQ := Lib.hid hq
          obtain ⟨q, hq⟩ : ∃ q, cf (fun i => decide (g i = t)) m = q := ⟨_, rfl⟩
          rw [hq] at hc hat HQ ⊢
          rw [HN4.out] at hc
          have y3 : decide ((n4 : Int) ≤ (q : Int)) = false := decide_eq_false (by omega)
          have y3' : decide (n4 ≤ q) = false := decide_eq_false (by omega)
          have y4 : ((m : Int) == (m : Int)) = true := by simp
          obtain ⟨gb, go, rfl, hcl⟩ := sr.list (k := 0) rfl (by rw [fl_len]; exact HN4.out) (by omega)
          have c1 := hcl q m hat
          have SR := Lib.hid sr
          have hn4 : n4 ≤ k := by rw [← HN4.out]; exact cf_le _ _
          clear hrd sr hgk hP hat hcl he CS
          generalize f m = fk at *
          go_wp2_with fail
          go_roundw
          case rel => exact ⟨m + 1, by omega, by go_num, by rw [HQ.out]; go_num, SR.out⟩
          case measure => simp [intOf]; omega
        · have y2 : (1 + r == t) = false := by simpa using he
          have hP : ¬ (fun i => decide (g i = t)) m = true := by
            intro h
            exact he (by rw [← hgk]; exact of_decide_eq_true h)
          have hq : cf (fun i => decide (g i = t)) (m + 1) = cf (fun i => decide (g i = t)) m := by rw [CS.out, if_neg hP]; rfl
          have HQ := Lib.hid hq
          obtain ⟨q, hq⟩ : ∃ q, cf (fun i => decide (g i = t)) m = q := ⟨_, rfl⟩
          rw [hq] at HQ ⊢
          have SR := Lib.hid sr
          clear hrd sr hgk hP he CS hq
          generalize f m = fk at *
          go_wp2_with fail
          go_roundw
          case rel => exact ⟨m + 1, by omega, by go_num, by rw [HQ.out], SR.out⟩
          case measure => simp [intOf]; omega
      · obtain rfl : m = k := by omega
        have y1 : decide ((m : Int) < (m : Int)) = false := decide_eq_false (by omega)
        have K6 := Lib.hid (Wk.forget sr)
        rw [HN4.out]
        have y4 : ((n4 : Int) == (n4 : Int)) = true := by simp
        clear sr
        go_wp2_with fail
        go_roundw
        case rel => exact ⟨t + 1, by omega, by omega, by go_num, by rw [show t + 1 - 1 = t by omega]; exact K6.out⟩
        case measure => simp [intOf]; omega
    · obtain rfl : t = 301 := by omega
      have LC := Lib.hid (Len_k sr)
      rw [aft_all fun i a h => by obtain ⟨j, -, -, rfl⟩ := tmN_some h; have := GB.out j; omega, cnt_none] at LC
      clear sr
      go_wp2_with fail
      refine LC.out.mono ?_
      rintro e w5 ⟨rfl, k5⟩
      have B5 := Lib.hid k5.below
      clear k5 LC
      go_wp2_with fail
      go_ret
      exact ⟨rfl, B5.out⟩

set_option maxRecDepth 100000 in
theorem lifted (os : Os) (started : os.Started) (H : Type) (enc : TypeId × Value → H) :
    ReturnsInHanded {} Try.checked os 6 .any (Rows.wheelNowSpec.pre6 enc Try.prog Try.f6 Rows.wheelNowRow.domain false) (Rows.wheelNowSpec.post enc Try.prog Try.f6 false true false false) := by
  refine law_lifted (C := Try.checked) (tb := 4) own started (by kernel_rfl) Try.func6
    (ChangeSpec.witness6 (enc := enc) (C := Try.checked) false ⟨#[], #[.slice none 0 0], []⟩ 8 (by kernel_rfl) (by kernel_rfl) (by kernel_rfl) (by kernel_rfl)) laid (by kernel_rfl) (by kernel_rfl) Try.underlying4 rfl ?_
  intro W base args ds ps hval0 hA0 hlt
  have hval : ∀ (j : Nat) t v, Try.f6.params[j]? = some t → args[j]? = some v → Value.okWide Try.prog W .any base t v := hval0
  have hA : DataW.TrodAll enc Try.prog W 0 (fun _ => true) true Try.f6.params.toList args.toList ds ps := hA0
  clear hA0 hval0
  rw [Try.params6] at hA hval
  obtain ⟨v0, vs0, d0, ds0, p0, q0, hargs, rfl, rfl, h0, r0⟩ := trodAll_cons hA
  obtain ⟨rfl, rfl, rfl⟩ := trodAll_nil r0
  obtain rfl : args = #[v0] := by cases args; simp_all
  obtain ⟨A0, n0, cap0, f0, rfl, le0, mx0, wf0, rd0⟩ := open_slice_ints Try.underlying51 Try.underlying48 (by kernel_rfl) (hval 0 51 v0 rfl rfl) h0
  refine ⟨⟨rfl, rfl, rfl⟩, ?_⟩
  exact walk A0 n0 cap0 f0 W (by omega) rd0 (fun j => bounds_u16 (wf0 j))

theorem over : Rows.wheelNowRow.holds Try.pinned (OpenSpec.ofChange Rows.wheelNowSpec) :=
  OpenClaim.holds_of_wide 6 Try.f6 rfl rfl rfl rfl rfl rfl rfl ⟨rfl, rfl, rfl, rfl, rfl⟩ rfl rfl rfl rfl rfl (by kernel_rfl) Try.func6 (by kernel_rfl)
    (of_decide_eq_true (by kernel_rfl)) (by unfold Func.isWrapper; first | (rw [if_pos (by decide +kernel)]; kernel_rfl) | (rw [if_neg (by decide +kernel)]; exact ⟨rfl, rfl⟩))
    (fun os started H enc _ => lifted os started H enc)
theorem proved : Rows.WheelNowSaid := over
#print axioms proved
end Go.Proofs.Ytklajkjmecfkpaa.wheelNow
