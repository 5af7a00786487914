/-
  For every two lists of unsigned 64-bit numbers WheelParts answers true, and changes nothing: to go at once, or in any steps, tells the same timers, in the same order; each goes off once. No condition.
-/
import Derived.Test.YtklajkjmecfkpaaRows
import Derived.Test.YtklajkjmecfkpaaFr
import Derived.Test.YtklajkjmecfkpaaWhN
namespace Go.Proofs.Ytklajkjmecfkpaa.wheelParts
open Go.ChangeShapes Go.WideShapes Go.ChangeAt Go.RowKit
set_option linter.unusedVariables false
theorem own : ownKnob Try.prog.godebug = none := by kernel_rfl
theorem laid : laidOutB Try.prog = true := by kernel_rfl
set_option maxRecDepth 100000
set_option maxHeartbeats 4000000
def good (f : Nat → Int) (k : Nat) : Prop := 0 < f k ∧ f k < 4611686018427387904
instance (f : Nat → Int) (k : Nat) : Decidable (good f k) := by unfold good; infer_instance
/-- Those of the first k timers that may be. -/
def tP (f : Nat → Int) (k : Nat) : Int → Option Int := fun i => if 0 ≤ i ∧ i < k ∧ good f i.toNat then some (f i.toNat) else none
def gN (f : Nat → Int) (k : Nat) : Nat := cf (fun i => decide (good f i)) k
theorem gN_le (f : Nat → Int) (k : Nat) : gN f k ≤ k := cf_le _ _
theorem tP_zero (f : Nat → Int) : tP f 0 = fun _ => none := by
  funext i; unfold tP; rw [if_neg (by omega)]
theorem tP_some {f : Nat → Int} {k : Nat} {i a : Int} (h : tP f k i = some a) : ∃ j : Nat, i = j ∧ j < k ∧ a = f j ∧ good f j := by
  unfold tP at h
  split at h
  · rename_i hh; injection h with h; exact ⟨i.toNat, by omega, by omega, h.symm, hh.2.2⟩
  · cases h
theorem tP_at {f : Nat → Int} {k j : Nat} (h : j < k) (hg : good f j) : tP f k (j : Int) = some (f j) := by
  unfold tP; rw [if_pos ⟨by omega, by omega, by simpa using hg⟩]; rfl
theorem tP_put {f : Nat → Int} {k : Nat} (hg : good f k) : updT (tP f k) (k : Int) (some (f k)) = tP f (k + 1) := by
  funext i
  unfold updT
  by_cases e : i = (k : Int)
  · subst e; rw [if_pos rfl, tP_at (Nat.lt_succ_self k) hg]
  · rw [if_neg e]
    unfold tP
    by_cases h : 0 ≤ i ∧ i < (k : Int) ∧ good f i.toNat
    · rw [if_pos h, if_pos ⟨h.1, by omega, h.2.2⟩]
    · rw [if_neg h, if_neg fun h' => h ⟨h'.1, by omega, h'.2.2⟩]
theorem tP_skip {f : Nat → Int} {k : Nat} (hg : ¬ good f k) : tP f (k + 1) = tP f k := by
  funext i
  unfold tP
  by_cases h : 0 ≤ i ∧ i < (k : Int) ∧ good f i.toNat
  · rw [if_pos h, if_pos ⟨h.1, by omega, h.2.2⟩]
  · rw [if_neg h, if_neg fun h' => ?_]
    by_cases e : i = (k : Int)
    · subst e; exact hg (by simpa using h'.2.2)
    · exact h ⟨h'.1, by omega, h'.2.2⟩
theorem tP_set (f : Nat → Int) {k : Nat} (hk : k < 1000) : setT 0 (tP f k) (k : Int) (f k) = tP f (k + 1) ∧ (setA 0 (k : Int) (f k) = 0 ∧ gN f (k + 1) = gN f k + 1 ∨ setA 0 (k : Int) (f k) ≠ 0 ∧ gN f (k + 1) = gN f k) := by
  by_cases hg : good f k
  · obtain ⟨a, b⟩ := set_new (now := 0) (id := (k : Int)) (by omega) (by omega) hg.1 hg.2 (tP f k)
    refine ⟨by rw [b, tP_put hg], Or.inl ⟨a, ?_⟩⟩
    unfold gN; rw [cf_succ, if_pos (decide_eq_true hg)]
  · have a : setA 0 (k : Int) (f k) ≠ 0 := by
      unfold setA
      split
      · decide
      · split
        · rename_i h1 h2; exact absurd ⟨by omega, h2⟩ hg
        · decide
    refine ⟨by unfold setT; rw [if_neg a, tP_skip hg], Or.inr ⟨a, ?_⟩⟩
    unfold gN; rw [cf_succ, if_neg (by simpa using hg)]; rfl
/-- All go off: as many as may be. -/
theorem tP_all {f : Nat → Int} {n : Nat} {o : List Int} (ho : OffP (tP f n) 4611686018427387903 o) : o.length = gN f n := by
  have hp : o.Perm (fl (fun i => decide (good f i)) n) := (List.perm_ext_iff_of_nodup ho.nodup (List.Pairwise.imp (S := fun a b => a ≠ b) (fun {a b} (h : a < b) => by omega) (fl_sort _ _))).2 fun i => by
    rw [ho.mem, fl_mem]
    constructor
    · rintro ⟨a, h, -⟩
      obtain ⟨j, rfl, hj, -, hg⟩ := tP_some h
      exact ⟨j, rfl, hj, decide_eq_true hg⟩
    · rintro ⟨k, rfl, hk, hP⟩
      have hg := of_decide_eq_true hP
      exact ⟨f k, tP_at hk hg, by have := hg.2; omega⟩
  rw [hp.length_eq, fl_len]; rfl
theorem tP_end (f : Nat → Int) (n : Nat) : aft (tP f n) 4611686018427387903 = fun _ => none := aft_all fun i a h => by
  obtain ⟨j, -, -, rfl, h1, h2⟩ := tP_some h; omega
theorem walk (A : Option Addr) (n cap : Nat) (f : Nat → Int) (A1 : Option Addr) (n1 cap1 : Nat) (f1 : Nat → Int) (w : World) (hm : n ≤ maxLen) (hm1 : n1 ≤ maxLen) (rd : Rd w A n (fun j => .int .u64 (f j))) (hf : ∀ j, 0 ≤ f j ∧ f j ≤ 18446744073709551615)
    (rd1 : Rd w A1 n1 (fun j => .int .u64 (f1 j))) (hf1 : ∀ j, 0 ≤ f1 j ∧ f1 j ≤ 18446744073709551615) :
    Calls Try.prog 4 #[.slice A n cap, .slice A1 n1 cap1] w fun r w' => r = .returned (.bool true) ∧ Below w.heap.size w w' := by
  unfold maxLen at hm hm1
  have RD := Lib.hid rd
  have HF := Lib.hid hf
  have RD1 := Lib.hid rd1
  have HF1 := Lib.hid hf1
  clear rd hf rd1 hf1
  by_cases hbig : 100 < n
  · have d1 : decide (100 < (n : Int)) = true := decide_eq_true (by omega)
    have d1' : decide (100 < n) = true := decide_eq_true hbig
    go_enter Try.func4, Try.ntmps4
    go_wp2_with fail
    refine (awake_c _).mono ?_
    rintro e w1 ⟨rfl, b1⟩
    go_wp2_with fail
    go_ret
    exact ⟨rfl, b1⟩
  have d1 : decide (100 < (n : Int)) = false := decide_eq_false (by omega)
  have d1' : decide (100 < n) = false := decide_eq_false hbig
  by_cases hbig1 : 60 < n1
  · have d2 : decide (60 < (n1 : Int)) = true := decide_eq_true (by omega)
    have d2' : decide (60 < n1) = true := decide_eq_true hbig1
    go_enter Try.func4, Try.ntmps4
    go_wp2_with fail
    refine (awake_c _).mono ?_
    rintro e w1 ⟨rfl, b1⟩
    go_wp2_with fail
    go_ret
    exact ⟨rfl, b1⟩
  have d2 : decide (60 < (n1 : Int)) = false := decide_eq_false (by omega)
  have d2' : decide (60 < n1) = false := decide_eq_false hbig1
  obtain ⟨iI, hiI, hzI, hsI, hbI⟩ := info3w YtklajkjmecfkpaaiI
  go_enter Try.func4, Try.ntmps4
  go_wp2_with fail
  refine (awake_c _).mono ?_
  rintro e w1 ⟨rfl, b1⟩
  have S1 := Lib.hid ((St.begin w).stay b1)
  clear b1
  go_wp2_with fail
  refine (wNew_o S1.out).mono ?_
  rintro e w2 ⟨ca, rfl, s2⟩
  have S2 := Lib.hid s2
  clear s2 S1
  go_wp2_with fail
  refine (wNew_o S2.out).mono ?_
  rintro e w3 ⟨cb, rfl, s3⟩
  have S3 := Lib.hid (show St w None w3 [WheelR ca 0 (fun _ => none), WheelR cb 0 (fun _ => none)] from s3)
  clear s3 S2
  go_wp2_with fail
  go_loopw [7, 8, 9] (fun x7 x8 x9 wr => ∃ k : Nat, k ≤ n ∧ x8 = .int .i64 k ∧ x7 = .int .i64 (gN f k : Nat) ∧ St w None wr [WheelR ca 0 (tP f k), WheelR cb 0 (tP f k)]) (fun _ i _ _ => n - (intOf i).toNat)
  case atStart => exact ⟨0, by omega, rfl, rfl, by rw [tP_zero]; exact S3.out⟩
  case round =>
  clear S3
  obtain ⟨k, hk, rfl, rfl, sr⟩ := hrel
  by_cases hlt : k < n
  · obtain ⟨ib, off, rfl, hib, hrd⟩ := RD.out (by omega)
    have e0 : wr.cell? ⟨ib, off + k, none⟩ = some (.int .u64 (f k)) := (sr.below.cell (p := ⟨ib, off + k, none⟩) hib).trans (hrd k hlt)
    have CE := Lib.hid (fun (W : World) (K : Below w.heap.size w W) => (K.cell (p := ⟨ib, off + k, none⟩) hib).trans (hrd k hlt))
    have hfk := HF.out k
    obtain ⟨ts, tg⟩ := tP_set f (k := k) (by omega)
    obtain ⟨x, hx⟩ : ∃ x, setA 0 (k : Int) (f k) = x := ⟨_, rfl⟩
    rw [hx] at tg
    have TS := Lib.hid ts
    have HX := Lib.hid hx
    have TG := Lib.hid tg
    have HK := Lib.hid (gN_le f k)
    have SR := Lib.hid sr
    obtain ⟨q, hq⟩ : ∃ q, gN f k = q := ⟨_, rfl⟩
    rw [hq] at TG HK ⊢
    have hqn : q ≤ k := HK.out
    clear hrd sr ts tg hx hq
    go_wp2_with fail
    refine (wSet_o SR.out 0 rfl hfk.1).mono ?_
    rintro e w4 ⟨rfl, s4⟩
    rw [TS.out] at s4
    rw [HX.out]
    have s5 : St w None w4 [WheelR ca 0 (tP f (k + 1)), WheelR cb 0 (tP f k)] := s4
    have S5 := Lib.hid s5
    have e1 := CE.out _ s5.below
    clear s4 s5 SR e0
    go_wp2_with fail
    refine (wSet_o S5.out 1 rfl hfk.1).mono ?_
    rintro e w5 ⟨rfl, s4⟩
    rw [TS.out] at s4
    rw [HX.out]
    have S6 := Lib.hid (show St w None w5 [WheelR ca 0 (tP f (k + 1)), WheelR cb 0 (tP f (k + 1))] from s4)
    have y1 : (x == x) = true := by simp
    clear s4 S5 e1 CE
    rcases TG.out with ⟨hx0, hg⟩ | ⟨hx0, hg⟩
    · subst hx0
      have HG := Lib.hid hg
      clear hg
      go_wp2_with fail
      go_roundw
      case rel => exact ⟨k + 1, by omega, by go_num, by rw [HG.out]; go_num, S6.out⟩
      case measure => simp [intOf]; omega
    · have y2 : (x == 0) = false := by simpa using hx0
      have HG := Lib.hid hg
      clear hg hx0
      go_wp2_with fail
      go_roundw
      case rel => exact ⟨k + 1, by omega, by go_num, by rw [HG.out], S6.out⟩
      case measure => simp [intOf]; omega
  · obtain rfl : k = n := by omega
    have z1 : decide ((k : Int) < (k : Int)) = false := decide_eq_false (by omega)
    obtain ⟨Sx, ok0, -⟩ := sr.get 1 rfl
    have OK := Lib.hid ok0
    have S0' := Lib.hid (show St w None wr [WheelR ca 0 (tP f k), WheelR cb 0 (tP f k), LisR 3 1 (.slice none 0 0) 0 (iv [])] from sr.lis_nil 3 1)
    have hGN := gN_le f k
    obtain ⟨T, hT⟩ : ∃ T, tP f k = T := ⟨_, rfl⟩
    have HT := Lib.hid hT
    rw [hT] at OK S0'
    obtain ⟨q, hq⟩ : ∃ q, gN f k = q := ⟨_, rfl⟩
    have HQ := Lib.hid hq
    rw [hq] at hGN ⊢
    clear sr hlt hT hq ok0
    go_wp2_with fail
    go_loopw [10, 11, 12, 13, 14] (fun x10 x11 x12 x13 x14 wr => ∃ (j : Nat) (now : Int) (p : List Int) (B : Option Addr) (m cb' : Nat), j ≤ n1 ∧ x12 = .int .i64 j ∧ x11 = .int .u64 now ∧ 0 ≤ now ∧ now < 4611686018427387904 ∧ x10 = .slice B m cb' ∧ p.length = m ∧ OffP T now p ∧ St w None wr [WheelR ca now (aft T now), WheelR cb 0 T, LisR 3 1 (.slice B m cb') m (iv p)]) (fun _ _ i _ _ _ => n1 - (intOf i).toNat)
    case atStart => exact ⟨0, 0, [], none, 0, 0, by omega, rfl, rfl, by omega, by omega, rfl, rfl, OffP.nil OK.out, by
      rw [aft_like fun i a h => (OK.out.t i a h).2.2.1]; exact S0'.out⟩
    case round =>
    clear S0' z1
    obtain ⟨j, now, p, B, m, cb', hj, rfl, rfl, h0, h1, rfl, hpl, hoff, sr⟩ := hrel
    have hm0 : m ≤ 1000 := by rw [← hpl]; exact hoff.len OK.out
    by_cases hlt : j < n1
    · obtain ⟨jb, joff, rfl, hjb, hjrd⟩ := RD1.out (by omega)
      have e0 : wr.cell? ⟨jb, joff + j, none⟩ = some (.int .u64 (f1 j)) := (sr.below.cell (p := ⟨jb, joff + j, none⟩) hjb).trans (hjrd j hlt)
      have hfj := HF1.out j
      obtain ⟨y, hy⟩ : ∃ y, f1 j = y := ⟨_, rfl⟩
      rw [hy] at e0 hfj
      have HPL := Lib.hid hpl
      have HOFF := Lib.hid hoff
      have SR := Lib.hid sr
      have z2 : decide ((j : Int) < (n1 : Int)) = true := decide_eq_true (by omega)
      clear hjrd hpl hoff hy sr
      by_cases hs : 2305843009213693952 < y
      · have y1 : decide (2305843009213693952 < y) = true := decide_eq_true hs
        go_wp2_with fail
        go_roundw
        case rel => exact ⟨j + 1, now, p, B, m, cb', by omega, by go_num, rfl, h0, h1, rfl, HPL.out, HOFF.out, SR.out⟩
        case measure => simp [intOf]; omega
      · have y1 : decide (2305843009213693952 < y) = false := decide_eq_false hs
        by_cases hs2 : 4611686018427387904 ≤ now + y
        · have y2 : decide (4611686018427387904 ≤ now + y) = true := decide_eq_true hs2
          go_wp2_with fail
          go_roundw
          case rel => exact ⟨j + 1, now, p, B, m, cb', by omega, by go_num, rfl, h0, h1, rfl, HPL.out, HOFF.out, SR.out⟩
          case measure => simp [intOf]; omega
        · have y2 : decide (4611686018427387904 ≤ now + y) = false := decide_eq_false hs2
          obtain ⟨q1, q2, q3⟩ := go_ok (now := now) (u := now + y) (by omega) (by omega) (aft T now)
          rw [aft_aft (by omega)] at q3
          have Q1 := Lib.hid q1
          have Q2 := Lib.hid q2
          have Q3 := Lib.hid q3
          clear q1 q2 q3
          go_wp2_with fail
          refine (wGo_o SR.out 0 rfl (by omega)).mono ?_
          rintro e w4 ⟨A4, n4, c4, o4, rfl, g4, hn4, hn5, s4⟩
          rw [Q2.out, Q3.out] at s4
          rw [Q1.out]
          have s5 : St w None w4 [WheelR ca (now + y) (aft T (now + y)), WheelR cb 0 T, LisR 3 1 (.slice B m cb') m (iv p), LisR 3 1 (.slice A4 n4 c4) n4 (iv o4)] := s4
          have HO := Lib.hid (HOFF.out.app (by omega) (g4.off (by omega) (by omega)))
          have HN := Lib.hid (show (p ++ o4).length = m + n4 by rw [List.length_append, HPL.out, hn4])
          have hL := s5.lis 2 rfl
          have HL := Lib.hid hL
          have HR := Lib.hid (show Rds w4 A4 n4 1 (iv o4) from ⟨(s5.lis 3 rfl).1, (s5.lis 3 rfl).reads.2⟩)
          have hmn : m + n4 ≤ 1000 := by rw [← HN.out]; exact HO.out.len OK.out
          have S5 := Lib.hid s5
          clear s4 s5 SR g4 hn4 hL Q1 Q2 Q3 e0
          go_wp2_with (at_builtin; go_loud (refine wpList_lis rfl (.tmp 91) (.tmp 92) 36 rfl 3 iI (.int .i64 0) 1 8 Try.underlying36 hiI hzI hsI hbI rfl (by decide) _ _ _ rfl HL.out A4 n4 c4 (iv o4) rfl HR.out (iv_one o4) (by unfold maxLen; omega) (by omega) ?_); intro D cD w6 hl hg hat; go_loud (rw [← iv_app] at hl); go_loud (have t6 := S5.out.lis_put 2 rfl hl hg hat); go_loud (have S6 := Lib.hid (t6.drop 3 (by simp))); clear hl hg hat t6)
          go_roundw
          case rel => exact ⟨j + 1, now + y, p ++ o4, D, m + n4, cD, by omega, by go_num, rfl, by omega, by omega, rfl, HN.out, HO.out, S6.out⟩
          case measure => simp [intOf]; omega
    · obtain rfl : j = n1 := by omega
      have z2 : decide ((j : Int) < (j : Int)) = false := decide_eq_false (by omega)
      have HPL := Lib.hid hpl
      have HOFF := Lib.hid hoff
      have SR := Lib.hid sr
      obtain ⟨q1, q2, q3⟩ := go_ok (now := now) (u := 4611686018427387903) (by omega) (by omega) (aft T now)
      rw [aft_aft (by omega)] at q3
      obtain ⟨r1, r2, r3⟩ := go_ok (now := 0) (u := 4611686018427387903) (by omega) (by omega) T
      have HE : aft T 4611686018427387903 = fun _ => none := by rw [← HT.out]; exact tP_end f k
      rw [HE] at q3 r3
      have Q1 := Lib.hid q1
      have Q2 := Lib.hid q2
      have Q3 := Lib.hid q3
      have R1 := Lib.hid r1
      have R2 := Lib.hid r2
      have R3 := Lib.hid r3
      clear q1 q2 q3 r1 r2 r3 hpl hoff sr HE
      go_wp2_with fail
      refine (wGo_o SR.out 0 rfl (by omega)).mono ?_
      rintro e w4 ⟨A4, n4, c4, o4, rfl, g4, hn4, hn5, s4⟩
      rw [Q2.out, Q3.out] at s4
      rw [Q1.out]
      have S5 := Lib.hid (show St w None w4 [WheelR ca 4611686018427387903 (fun _ => none), WheelR cb 0 T, LisR 3 1 (.slice B m cb') m (iv p), LisR 3 1 (.slice A4 n4 c4) n4 (iv o4)] from s4)
      have HO := Lib.hid (HOFF.out.app (by omega) (g4.off (by omega) (by omega)))
      have HN := Lib.hid (show (p ++ o4).length = m + n4 by rw [List.length_append, HPL.out, hn4])
      clear s4 SR g4 hn4 Q1 Q2 Q3
      go_wp2_with fail
      refine (wGo_o S5.out 1 rfl (by omega)).mono ?_
      rintro e w5 ⟨A5, n6, c5, o5, rfl, g5, hn6, hn7, s5⟩
      rw [R2.out, R3.out] at s5
      rw [R1.out]
      have s6 : St w None w5 [WheelR ca 4611686018427387903 (fun _ => none), WheelR cb 4611686018427387903 (fun _ => none), LisR 3 1 (.slice B m cb') m (iv p), LisR 3 1 (.slice A4 n4 c4) n4 (iv o4), LisR 3 1 (.slice A5 n6 c5) n6 (iv o5)] := s5
      obtain rfl := HO.out.uniq (g5.off (by omega) (by omega))
      obtain rfl : m + n4 = n6 := HN.out.symm.trans hn6
      have hq := tP_all (f := f) (n := k) (o := p ++ o4) (by rw [HT.out]; exact HO.out)
      rw [HN.out, HQ.out] at hq
      subst hq
      have hmn : m + n4 ≤ 1000 := hn7
      have HL := Lib.hid (s6.lis 2 rfl)
      have HR := Lib.hid (show Rds w5 A4 n4 1 (iv o4) from ⟨(s6.lis 3 rfl).1, (s6.lis 3 rfl).reads.2⟩)
      have S6 := Lib.hid s6
      clear s5 s6 S5 g5 hn6 HO R1 R2 R3
      go_wp2_with (at_builtin; go_loud (refine wpList_lis_g (by rfl) (.tmp 111) (.tmp 112) 36 rfl 3 iI (.int .i64 0) 1 8 Try.underlying36 hiI hzI hsI hbI rfl (by decide) _ _ _ rfl HL.out A4 n4 c4 (iv o4) rfl HR.out (iv_one o4) (by unfold maxLen; omega) (by omega) ?_); intro D cD w6 hl hg hat; rw [← iv_app] at hl; have S7 := Lib.hid (S6.out.lis_put 2 rfl hl hg hat); clear hl hg hat)
      refine (Ints_w (S7.out.lis 2 rfl) (S7.out.lis 4 rfl)).mono ?_
      rintro e w7 ⟨rfl, b7⟩
      have S8 := Lib.hid (S7.out.stay b7)
      clear S7 b7
      have y5 : ((m : Int) + (n4 : Int) == (m : Int) + (n4 : Int)) = true := by simp
      go_wp2_with fail
      refine (wLen_o S8.out 0 rfl).mono ?_
      rintro e w8 ⟨rfl, s9⟩
      rw [cnt_none]
      have S9 := Lib.hid s9
      clear s9 S8
      go_wp2_with fail
      refine (wLen_o S9.out 1 rfl).mono ?_
      rintro e w9 ⟨rfl, s10⟩
      rw [cnt_none]
      have B10 := Lib.hid s10.below
      clear s10 S9
      go_wp2_with fail
      go_ret
      exact ⟨rfl, B10.out⟩

set_option maxRecDepth 100000 in
theorem lifted (os : Os) (started : os.Started) (H : Type) (enc : TypeId × Value → H) :
    ReturnsInHanded {} Try.checked os 4 .any (Rows.wheelPartsSpec.pre6 enc Try.prog Try.f4 Rows.wheelPartsRow.domain false) (Rows.wheelPartsSpec.post enc Try.prog Try.f4 false true false false) := by
  refine law_lifted (C := Try.checked) (tb := 4) own started (by kernel_rfl) Try.func4
    (ChangeSpec.witness6 (enc := enc) (C := Try.checked) false ⟨#[], #[.slice none 0 0, .slice none 0 0], []⟩ 8 (by kernel_rfl) (by kernel_rfl) (by kernel_rfl) (by kernel_rfl)) laid (by kernel_rfl) (by kernel_rfl) Try.underlying4 rfl ?_
  intro W base args ds ps hval0 hA0 hlt
  have hval : ∀ (j : Nat) t v, Try.f4.params[j]? = some t → args[j]? = some v → Value.okWide Try.prog W .any base t v := hval0
  have hA : DataW.TrodAll enc Try.prog W 0 (fun _ => true) true Try.f4.params.toList args.toList ds ps := hA0
  clear hA0 hval0
  rw [Try.params4] at hA hval
  obtain ⟨v0, vs0, d0, ds0, p0, q0, hargs, rfl, rfl, h0, r0⟩ := trodAll_cons hA
  obtain ⟨v1, vs1, d1, ds1, p1, q1, rfl, rfl, rfl, h1, r1⟩ := trodAll_cons r0
  obtain ⟨rfl, rfl, rfl⟩ := trodAll_nil r1
  obtain rfl : args = #[v0, v1] := by cases args; simp_all
  obtain ⟨A0, n0, cap0, f0, rfl, le0, mx0, wf0, rd0⟩ := open_slice_ints Try.underlying45 Try.underlying28 (by kernel_rfl) (hval 0 45 v0 rfl rfl) h0
  obtain ⟨A1, n1, cap1, f1, rfl, le1, mx1, wf1, rd1⟩ := open_slice_ints Try.underlying45 Try.underlying28 (by kernel_rfl) (hval 1 45 v1 rfl rfl) h1
  refine ⟨⟨rfl, rfl, rfl⟩, ?_⟩
  exact walk A0 n0 cap0 f0 A1 n1 cap1 f1 W (by omega) (by omega) rd0 (fun j => bounds_u64 (wf0 j)) rd1 (fun j => bounds_u64 (wf1 j))

theorem over : Rows.wheelPartsRow.holds Try.pinned (OpenSpec.ofChange Rows.wheelPartsSpec) :=
  OpenClaim.holds_of_wide 4 Try.f4 rfl rfl rfl rfl rfl rfl rfl ⟨rfl, rfl, rfl, rfl, rfl⟩ rfl rfl rfl rfl rfl (by kernel_rfl) Try.func4 (by kernel_rfl)
    (of_decide_eq_true (by kernel_rfl)) (by unfold Func.isWrapper; first | (rw [if_pos (by decide +kernel)]; kernel_rfl) | (rw [if_neg (by decide +kernel)]; exact ⟨rfl, rfl⟩))
    (fun os started H enc _ => lifted os started H enc)
theorem proved : Rows.WheelPartsSaid := over
#print axioms proved
end Go.Proofs.Ytklajkjmecfkpaa.wheelParts
