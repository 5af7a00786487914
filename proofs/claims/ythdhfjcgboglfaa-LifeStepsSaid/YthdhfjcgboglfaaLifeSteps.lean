/-
  For every two rows of numbers LifeSteps answers true, and changes nothing: to go at once, or by any steps, tells the same outcomes in the same order (up to 64 requests, up to 60 steps). No condition.
-/
import Derived.Test.YthdhfjcgboglfaaRows
import Derived.Test.YthdhfjcgboglfaaFr
import Derived.Test.YthdhfjcgboglfaaLifeU
namespace Go.Proofs.Ythdhfjcgboglfaa.lifeSteps
open Go.ChangeShapes Go.WideShapes Go.ChangeAt Go.RowKit
set_option linter.unusedVariables false
theorem own : ownKnob Try.prog.godebug = none := by kernel_rfl
theorem laid : laidOutB Try.prog = true := by kernel_rfl
set_option maxRecDepth 100000
set_option maxHeartbeats 4000000
def stN (f : Nat → Int) (k : Nat) : Bk := ⟨7, 0, opN (fun j => 8 + f j) k, []⟩
theorem goA_le {a u : Int} (h0 : a ≤ u) (h1 : u < 4611686018427387904) : goA a u = 0 := by unfold goA; rw [if_pos h1, if_neg (by omega)]
theorem gon_gon {s : Bk} {u u' : Int} (h : s.now ≤ u) (h1 : u ≤ u') (h2 : u' < 4611686018427387904) : (s.gon u).gon u' = s.gon u' := by
  have g1 : goA s.now u = 0 := goA_le h (by omega)
  have g2 : goA s.now u' = 0 := goA_le (by omega) h2
  have e1 : s.gon u = { s with now := u, op := opF s u, un := [] } := by unfold Bk.gon; rw [if_pos g1]
  have e2 : s.gon u' = { s with now := u', op := opF s u', un := [] } := by unfold Bk.gon; rw [if_pos g2]
  rw [e1, e2]
  unfold Bk.gon
  rw [if_pos (show goA u u' = 0 from goA_le h1 h2)]
  have e : opF { s with now := u, op := opF s u, un := [] } u' = opF s u' := by
    funext k
    refine Option.ext fun x => ?_
    rw [opF_some, opF_some, opF_some]
    show (s.op k = some x ∧ u < x.2 - s.cost) ∧ u' < x.2 - s.cost ↔ _
    constructor
    · rintro ⟨⟨a, b⟩, c⟩; exact ⟨a, c⟩
    · rintro ⟨a, b⟩; exact ⟨⟨a, by omega⟩, b⟩
  rw [e]
theorem fvs_all : ∀ (l : List Ft), ∀ u ∈ fvs l, u.oneCell' = true
  | [], u, h => by cases h
  | f :: l, u, h => by
    simp only [fvs, List.mem_cons] at h
    rcases h with rfl | rfl | rfl | h
    · rfl
    · rfl
    · rfl
    · exact fvs_all l u h
theorem fLate_ap (l m : List Nat) : fLate (l ++ m) = fLate l ++ fLate m := by unfold fLate; simp
section
variable {f : Nat → Int} {k : Nat}
theorem stN_ok (hf : ∀ j, 0 ≤ f j ∧ f j ≤ 65535) (hk : k ≤ 64) : (stN f k).ok := okN (by omega) (by omega) (by omega) hk fun j _ => by have := hf j; first | omega | (dsimp only; omega)
theorem stN_0 : Bk.new 7 = stN f 0 := by unfold stN; rw [opN_0]; rfl
theorem stN_a (hf : ∀ j, 0 ≤ f j ∧ f j ≤ 65535) (hk : k < 64) : opnA (stN f k) (k : Int) (8 + f k) = 0 := opnA_N (D := fun j => 8 + f j) hk (by have := hf k; first | omega | (dsimp only; omega)) (by have := hf k; first | omega | (dsimp only; omega))
theorem stN_o (hf : ∀ j, 0 ≤ f j ∧ f j ≤ 65535) (hk : k < 64) : (stN f k).opn (k : Int) (8 + f k) = stN f (k + 1) := opn_N (D := fun j => 8 + f j) hk (by have := hf k; first | omega | (dsimp only; omega)) (by have := hf k; first | omega | (dsimp only; omega))
theorem stN_g (hf : ∀ j, 0 ≤ f j ∧ f j ≤ 65535) : (stN f k).gon 0 = stN f k := by
  unfold Bk.gon
  rw [if_pos (show goA (stN f k).now 0 = 0 from goA_le (Int.le_refl _) (by omega))]
  have e : opF (stN f k) 0 = (stN f k).op := by
    funext j
    refine Option.ext fun x => ?_
    rw [opF_some]
    constructor
    · exact fun h => h.1
    · intro h
      refine ⟨h, ?_⟩
      obtain ⟨_, rfl⟩ := opN_some (show opN (fun j => 8 + f j) k j = some x from h)
      have := hf j
      show 0 < 8 + f j - 7
      omega
  rw [e]; rfl
theorem stN_l (hf : ∀ j, 0 ≤ f j ∧ f j ≤ 65535) : LateQ (stN f k) 0 [] := by
  refine ⟨by simp, fun x => ?_, fun a b x y _ hx _ => by simp at hx⟩
  constructor
  · intro h; cases h
  · rintro ⟨j, d, h, hd⟩
    obtain ⟨_, e⟩ := opN_some (show opN (fun j => 8 + f j) k j = some _ from h)
    injection e with _ e
    have := hf j
    have hd : d - 7 ≤ 0 := hd
    omega
theorem outQ {s : Bk} {u : Int} {o : List Ft} (hg : goA s.now u = 0) (h : OutP s u o) : ∃ l, LateQ s u l ∧ o = s.un ++ fLate l := by
  unfold OutP at h; rwa [if_pos hg] at h
end
theorem neq_self (a b c : Int) (W : World) : (binOp .neq 50 (.agg #[.int .i64 a, .int .i64 b, .int .i64 c]) (.agg #[.int .i64 a, .int .i64 b, .int .i64 c])).run Try.prog W = .ok (.bool false) W := by
  go_simp
theorem gon_now {s : Bk} {u : Int} (hg : goA s.now u = 0) : (s.gon u).now = u ∧ (s.gon u).un = [] := by unfold Bk.gon; rw [if_pos hg]; exact ⟨rfl, rfl⟩
theorem walk (A : Option Addr) (n cap : Nat) (f : Nat → Int) (A1 : Option Addr) (n1 cap1 : Nat) (f1 : Nat → Int) (w : World) (hm : n ≤ maxLen) (hm1 : n1 ≤ maxLen) (rd : Rd w A n (fun j => .int .u16 (f j))) (hf : ∀ j, 0 ≤ f j ∧ f j ≤ 65535)
    (rd1 : Rd w A1 n1 (fun j => .int .u8 (f1 j))) (hf1 : ∀ j, 0 ≤ f1 j ∧ f1 j ≤ 255) :
    Calls Try.prog 8 #[.slice A n cap, .slice A1 n1 cap1] w fun r w' => r = .returned (.bool true) ∧ Below w.heap.size w w' := by
  unfold maxLen at hm hm1
  have RD := Lib.hid rd
  have HF := Lib.hid hf
  have RD1 := Lib.hid rd1
  have HF1 := Lib.hid hf1
  clear rd hf rd1 hf1
  obtain ⟨iF, hiF, hzF, hsF, hbF⟩ := info3l YthdhfjcgboglfaaiFt
  have AW := Lib.hid (awake_c w)
  by_cases hbig : 64 < n
  · have d1 : decide (64 < (n : Int)) = true := decide_eq_true (by omega)
    have d1' : decide (64 < n) = true := decide_eq_true hbig
    go_enter Try.func8, Try.ntmps8
    go_wp2_with fail
    refine AW.out.mono ?_
    rintro e w1 ⟨rfl, s1⟩
    have N1 := Lib.hid (bNew_o (c := 7) s1 (by kernel_rfl))
    clear AW s1
    go_wp2_with fail
    refine N1.out.mono ?_
    rintro e w2 ⟨ca, rfl, s2⟩
    have N2 := Lib.hid (bNew_o (c := 7) s2 (by kernel_rfl))
    clear N1 s2
    go_wp2_with fail
    refine N2.out.mono ?_
    rintro e w3 ⟨cb, rfl, s3⟩
    have S3 := Lib.hid (show St w None w3 [BookR ca (stN f 0), BookR cb (stN f 0)] by rw [← stN_0]; exact s3)
    clear N2 s3
    go_wp2_with fail
    go_ret
    exact ⟨rfl, S3.out.below⟩
  have d1 : decide (64 < (n : Int)) = false := decide_eq_false (by omega)
  have d1' : decide (64 < n) = false := decide_eq_false hbig
  by_cases hbig1 : 60 < n1
  · have d2 : decide (60 < (n1 : Int)) = true := decide_eq_true (by omega)
    have d2' : decide (60 < n1) = true := decide_eq_true hbig1
    go_enter Try.func8, Try.ntmps8
    go_wp2_with fail
    refine AW.out.mono ?_
    rintro e w1 ⟨rfl, s1⟩
    have N1 := Lib.hid (bNew_o (c := 7) s1 (by kernel_rfl))
    clear AW s1
    go_wp2_with fail
    refine N1.out.mono ?_
    rintro e w2 ⟨ca, rfl, s2⟩
    have N2 := Lib.hid (bNew_o (c := 7) s2 (by kernel_rfl))
    clear N1 s2
    go_wp2_with fail
    refine N2.out.mono ?_
    rintro e w3 ⟨cb, rfl, s3⟩
    have S3 := Lib.hid (show St w None w3 [BookR ca (stN f 0), BookR cb (stN f 0)] by rw [← stN_0]; exact s3)
    clear N2 s3
    go_wp2_with fail
    go_ret
    exact ⟨rfl, S3.out.below⟩
  have d2 : decide (60 < (n1 : Int)) = false := decide_eq_false (by omega)
  have d2' : decide (60 < n1) = false := decide_eq_false hbig1
  go_enter Try.func8, Try.ntmps8
  go_wp2_with fail
  refine AW.out.mono ?_
  rintro e w1 ⟨rfl, s1⟩
  have N1 := Lib.hid (bNew_o (c := 7) s1 (by kernel_rfl))
  clear AW s1
  go_wp2_with fail
  refine N1.out.mono ?_
  rintro e w2 ⟨ca, rfl, s2⟩
  have N2 := Lib.hid (bNew_o (c := 7) s2 (by kernel_rfl))
  clear N1 s2
  go_wp2_with fail
  refine N2.out.mono ?_
  rintro e w3 ⟨cb, rfl, s3⟩
  have S3 := Lib.hid (show St w None w3 [BookR ca (stN f 0), BookR cb (stN f 0)] by rw [← stN_0]; exact s3)
  clear N2 s3
  go_wp2_with fail
  go_loopw [9] (fun x wr => ∃ k : Nat, k ≤ n ∧ x = .int .i64 (k : Int) ∧ St w None wr [BookR ca (stN f k), BookR cb (stN f k)]) (fun i _ => n - (intOf i).toNat)
  case atStart => exact ⟨0, by omega, rfl, S3.out⟩
  case round =>
  clear S3
  obtain ⟨k, hk, rfl, sr⟩ := hrel
  by_cases hlt : k < n
  · obtain ⟨ib, off, rfl, hib, hrd⟩ := RD.out (by omega)
    have z1 : decide ((k : Int) < (n : Int)) = true := decide_eq_true (by omega)
    have z1' : decide (k < n) = true := decide_eq_true hlt
    have e0 : wr.cell? ⟨ib, off + k, none⟩ = some (.int .u16 (f k)) := (sr.below.cell (p := ⟨ib, off + k, none⟩) hib).trans (hrd k hlt)
    have CE := Lib.hid (fun (W : World) (K : Below w.heap.size w W) => (K.cell (p := ⟨ib, off + k, none⟩) hib).trans (hrd k hlt))
    have hfk := HF.out k
    have K1 := Lib.hid (bOpen_o (id := (k : Int)) (dead := 8 + f k) sr 0 rfl (wf_small (by omega) (by omega)) (by omega) (by omega))
    rw [stN_a HF.out (by omega), stN_o HF.out (by omega)] at K1
    clear hrd sr
    go_wp2_with fail
    refine K1.out.mono ?_
    rintro e w4 ⟨rfl, s4⟩
    have K2 := Lib.hid (bOpen_o (id := (k : Int)) (dead := 8 + f k) s4 1 rfl (wf_small (by omega) (by omega)) (by omega) (by omega))
    rw [stN_a HF.out (by omega), stN_o HF.out (by omega)] at K2
    have e1 := CE.out _ s4.below
    clear s4 e0 K1 CE
    go_wp2_with fail
    refine K2.out.mono ?_
    rintro e w5 ⟨rfl, s5⟩
    have S5 := Lib.hid s5
    clear s5 K2 e1
    go_wp2_with fail
    go_roundw
    case rel => exact ⟨k + 1, by omega, by go_num, S5.out⟩
    case measure => simp [intOf]; omega
  · obtain rfl : k = n := by omega
    have z1 : decide ((k : Int) < (k : Int)) = false := decide_eq_false (by omega)
    have z1' : decide (k < k) = false := decide_eq_false hlt
    have OK := Lib.hid (stN_ok HF.out (show k ≤ 64 by omega))
    have S0' := Lib.hid (show St w None wr [BookR ca ((stN f k).gon 0), BookR cb (stN f k), LisR 50 3 (.slice none 0 0) 0 (fvs (fLate []))] by rw [stN_g HF.out]; exact sr.lis_nil 50 3)
    clear sr hlt
    go_wp2_with fail
    go_loopw [10, 11, 12, 13, 14] (fun x10 x11 x12 x13 x14 wr => ∃ (j : Nat) (now : Int) (p : List Nat) (B : Option Addr) (m cb' : Nat), j ≤ n1 ∧ x12 = .int .i64 (j : Int) ∧ x11 = .int .u64 now ∧ 0 ≤ now ∧ now ≤ 255 * (j : Int) ∧ x10 = .slice B m cb' ∧ m ≤ 91000 * j ∧ p.length = m ∧ LateQ (stN f k) now p ∧ St w None wr [BookR ca ((stN f k).gon now), BookR cb (stN f k), LisR 50 3 (.slice B m cb') m (fvs (fLate p))]) (fun _ _ i _ _ _ => n1 - (intOf i).toNat)
    case atStart => exact ⟨0, 0, [], none, 0, 0, by omega, rfl, rfl, by omega, by omega, rfl, by omega, rfl, stN_l HF.out, S0'.out⟩
    case round =>
    clear S0' z1 z1'
    obtain ⟨j, now, p, B, m, cb', hj, rfl, rfl, h0, h1, rfl, hmm, hpl, hq, sr⟩ := hrel
    have hg0 : goA (stN f k).now now = 0 := goA_le h0 (by omega)
    obtain ⟨hn, hu⟩ := gon_now hg0
    have HPL := Lib.hid hpl
    have HQ := Lib.hid hq
    by_cases hlt : j < n1
    · obtain ⟨jb, joff, rfl, hjb, hjrd⟩ := RD1.out (by omega)
      have e0 : wr.cell? ⟨jb, joff + j, none⟩ = some (.int .u8 (f1 j)) := (sr.below.cell (p := ⟨jb, joff + j, none⟩) hjb).trans (hjrd j hlt)
      have hfj := HF1.out j
      obtain ⟨y, hy⟩ : ∃ y, f1 j = y := ⟨_, rfl⟩
      rw [hy] at e0 hfj
      have z2 : decide ((j : Int) < (n1 : Int)) = true := decide_eq_true (by omega)
      have z2' : decide (j < n1) = true := decide_eq_true hlt
      have hga : goA ((stN f k).gon now).now (now + y) = 0 := by rw [hn]; exact goA_le (by omega) (by omega)
      have GG := Lib.hid (bGo_o (u := now + y) sr 0 rfl (by omega) (by rw [hu]; exact Nat.zero_le _))
      rw [hga, gon_gon (show (stN f k).now ≤ now from h0) (by omega) (by omega)] at GG
      have HGA := Lib.hid hga
      have HG0 := Lib.hid hg0
      have HU := Lib.hid hu
      clear hjrd hpl hq hy sr hg0 hn hu hga
      go_wp2_with fail
      refine GG.out.mono ?_
      rintro e w4 ⟨A4, n4, c4, o4, rfl, ho, hn4, hn9, s5⟩
      obtain ⟨l2, hl2, he⟩ := outQ HGA.out ho
      rw [HU.out, List.nil_append] at he
      subst he
      have HL2 := Lib.hid (HQ.out.app OK.out h0 HG0.out (show now ≤ now + y by omega) hl2)
      have HN := Lib.hid (show (p ++ l2).length = m + n4 by rw [List.length_append, HPL.out, ← hn4]; unfold fLate; rw [List.length_map])
      have HL := Lib.hid (s5.lis 2 rfl)
      have HR := Lib.hid (show Rds w4 A4 n4 3 (fvs (fLate l2)) from (s5.lis 3 rfl).reads)
      have S5 := Lib.hid s5
      clear s5 GG ho hl2 hn4 e0
      go_wp2_with (first
        | (at_builtin; refine wpList_lis rfl (.tmp 111) (.tmp 112) 31 rfl 50 iF (.agg #[.int .i64 0, .int .i64 0, .int .i64 0]) 3 24 Try.underlying31 hiF hzF hsF hbF rfl (by decide) _ _ _ rfl HL.out A4 n4 c4 (fvs (fLate l2)) rfl HR.out (fvs_all _) (by unfold maxLen; omega) (by omega) ?_; intro D cD w6 hl hg hat; have t6 := S5.out.lis_put 2 rfl hl hg hat; rw [← fvs_app, ← fLate_ap] at t6; have S6 := Lib.hid (t6.drop 3 (by simp)); clear hl hg hat t6)
        | fail)
      go_roundw
      case rel => exact ⟨j + 1, now + y, p ++ l2, D, m + n4, cD, by omega, by go_num, rfl, by omega, by omega, rfl, by omega, HN.out, HL2.out, S6.out⟩
      case measure => simp [intOf]; omega
    · obtain rfl : j = n1 := by omega
      have z2 : decide ((j : Int) < (j : Int)) = false := decide_eq_false (by omega)
      have z2' : decide (j < j) = false := decide_eq_false hlt
      have hga : goA ((stN f k).gon now).now 100000 = 0 := by rw [hn]; exact goA_le (by omega) (by omega)
      have GG := Lib.hid (bGo_o (u := 100000) sr 0 rfl (by omega) (by rw [hu]; exact Nat.zero_le _))
      rw [hga, gon_gon (show (stN f k).now ≤ now from h0) (by omega) (by omega)] at GG
      have HGA := Lib.hid hga
      have HG0 := Lib.hid hg0
      have HU := Lib.hid hu
      have HB0 := Lib.hid (show goA (stN f k).now 100000 = 0 from goA_le (show (0 : Int) ≤ 100000 by omega) (by omega))
      clear hpl hq sr hg0 hn hu hga
      go_wp2_with fail
      refine GG.out.mono ?_
      rintro e w4 ⟨A4, n4, c4, o4, rfl, ho, hn4, hn9, s5⟩
      obtain ⟨l2, hl2, he⟩ := outQ HGA.out ho
      rw [HU.out, List.nil_append] at he
      subst he
      have hL2 := HQ.out.app OK.out h0 HG0.out (show now ≤ 100000 by omega) hl2
      have hlen := late_len (D := fun j => 8 + f j) (i := k) hL2 rfl (fun j _ => by have := HF.out j; show 8 + f j - 7 ≤ 100000; omega)
      have HN := Lib.hid (show (p ++ l2).length = m + n4 by rw [List.length_append, HPL.out, ← hn4]; unfold fLate; rw [List.length_map])
      have hk4 : m + n4 = k := by rw [← HN.out]; exact hlen
      have HL2 := Lib.hid hL2
      have GB := Lib.hid (bGo_o (u := 100000) s5 1 rfl (by omega) (by show (0 : Nat) ≤ 90000; omega))
      rw [HB0.out] at GB
      clear s5 GG ho hl2 hn4 hL2 hlen
      go_wp2_with fail
      refine GB.out.mono ?_
      rintro e w5 ⟨A5, n5, c5, o5, rfl, ho, hn5, hn95, s6⟩
      obtain ⟨l3, hl3, he⟩ := outQ HB0.out ho
      have he : o5 = fLate l3 := he
      subst he
      obtain rfl := HL2.out.uniq OK.out hl3
      have hn5k : n5 = k := by rw [← hn5]; unfold fLate; rw [List.length_map, HN.out, hk4]
      rw [hn5k] at s6 ⊢
      have HL := Lib.hid (s6.lis 2 rfl)
      have HR := Lib.hid (show Rds w5 A4 n4 3 (fvs (fLate l2)) from (s6.lis 3 rfl).reads)
      have S6 := Lib.hid s6
      clear s6 GB ho hl3 hn5
      go_wp2_with (first
        | (at_builtin; refine wpList_lis rfl (.tmp 124) (.tmp 125) 31 rfl 50 iF (.agg #[.int .i64 0, .int .i64 0, .int .i64 0]) 3 24 Try.underlying31 hiF hzF hsF hbF rfl (by decide) _ _ _ rfl HL.out A4 n4 c4 (fvs (fLate l2)) rfl HR.out (fvs_all _) (by unfold maxLen; omega) (by omega) ?_; intro D cD w6 hl hg hat; have t6 := S6.out.lis_put 2 rfl hl hg hat; rw [← fvs_app, ← fLate_ap, hk4] at t6; have S7 := Lib.hid t6; rw [hk4]; clear hl hg hat t6)
        | fail)
      have HLN := Lib.hid (show (p ++ l2).length = k by rw [HN.out, hk4])
      generalize p ++ l2 = l at *
      clear HN HR HL S6 HL2 HU HGA HG0 HB0 hk4
      go_loopw [19] (fun x wr => ∃ i : Nat, i ≤ k ∧ x = .int .i64 (i : Int) ∧ St w None wr [BookR ca ((stN f k).gon 100000), BookR cb ((stN f k).gon 100000), LisR 50 3 (.slice D k cD) k (fvs (fLate l)), LisR 50 3 (.slice A4 n4 c4) n4 (fvs (fLate l2)), LisR 50 3 (.slice A5 k c5) k (fvs (fLate l))]) (fun x _ => k - (intOf x).toNat)
      case atStart => exact ⟨0, by omega, rfl, S7.out⟩
      case round =>
      clear S7
      obtain ⟨i, hik, rfl, sr⟩ := hrel
      by_cases hlt2 : i < k
      · have z3 : decide ((i : Int) < (k : Int)) = true := decide_eq_true (by omega)
        have z3' : decide (i < k) = true := decide_eq_true hlt2
        obtain ⟨x, hx⟩ : ∃ x, l[i]? = some x := ⟨_, List.getElem?_eq_getElem (show i < l.length by rw [HLN.out]; exact hlt2)⟩
        obtain ⟨y0, y1, y2⟩ := fvs_at (fLate l) i ⟨(x : Int), 2, 1⟩ (by unfold fLate; rw [List.getElem?_map, hx]; rfl)
        obtain ⟨g1, q1, rfl, hc1⟩ := (sr.drew.lis 2 rfl).reads.2.resolve_left (by omega)
        obtain ⟨g2, q2, rfl, hc2⟩ := (sr.drew.lis 4 rfl).reads.2.resolve_left (by omega)
        have x0 := hc1 _ _ y0
        have x1 := hc1 _ _ y1
        have x2 := hc1 _ _ y2
        have x3 := hc2 _ _ y0
        have x4 := hc2 _ _ y1
        have x5 := hc2 _ _ y2
        rw [← Nat.add_assoc] at x1 x2 x4 x5
        dsimp only at x0 x1 x2 x3 x4 x5
        have NQ := neq_self (x : Int) 2 1
        have v0 : (0 : Int) ≤ (i : Int) := by omega
        have v1 : (i : Int) < (k : Int) := by omega
        have S8 := Lib.hid sr.drew
        clear hc1 hc2 y0 y1 y2 hx sr
        go_wp2_with fail
        go_region
        all_goals
          go_wp2_with fail
          go_roundw
          case rel => exact ⟨i + 1, by omega, by go_num, S8.out⟩
          case measure => simp [intOf]; omega
      · obtain rfl : i = k := by omega
        have z3 : decide ((i : Int) < (i : Int)) = false := decide_eq_false (by omega)
        have z3' : decide (i < i) = false := decide_eq_false hlt2
        have S8 := Lib.hid sr.below
        clear sr
        go_wp2_with fail
        go_ret
        exact ⟨rfl, S8.out⟩

set_option maxRecDepth 100000 in
theorem lifted (os : Os) (started : os.Started) (H : Type) (enc : TypeId × Value → H) :
    ReturnsInHanded {} Try.checked os 8 .any (Rows.lifeStepsSpec.pre6 enc Try.prog Try.f8 Rows.lifeStepsRow.domain false) (Rows.lifeStepsSpec.post enc Try.prog Try.f8 false true false false) := by
  refine law_lifted (C := Try.checked) (tb := 4) own started (by kernel_rfl) Try.func8
    (ChangeSpec.witness6 (enc := enc) (C := Try.checked) false ⟨#[], #[.slice none 0 0, .slice none 0 0], []⟩ 8 (by kernel_rfl) (by kernel_rfl) (by kernel_rfl) (by kernel_rfl)) laid (by kernel_rfl) (by kernel_rfl) Try.underlying4 rfl ?_
  intro W base args ds ps hval0 hA0 hlt
  have hval : ∀ (j : Nat) t v, Try.f8.params[j]? = some t → args[j]? = some v → Value.okWide Try.prog W .any base t v := hval0
  have hA : DataW.TrodAll enc Try.prog W 0 (fun _ => true) true Try.f8.params.toList args.toList ds ps := hA0
  clear hA0 hval0
  rw [Try.params8] at hA hval
  obtain ⟨v0, vs0, d0, ds0, p0, q0, hargs, rfl, rfl, h0, r0⟩ := trodAll_cons hA
  obtain ⟨v1, vs1, d1, ds1, p1, q1, rfl, rfl, rfl, h1, r1⟩ := trodAll_cons r0
  obtain ⟨rfl, rfl, rfl⟩ := trodAll_nil r1
  obtain rfl : args = #[v0, v1] := by cases args; simp_all
  obtain ⟨A0, n0, cap0, f0, rfl, le0, mx0, wf0, rd0⟩ := open_slice_ints Try.underlying52 Try.underlying53 (by kernel_rfl) (hval 0 52 v0 rfl rfl) h0
  obtain ⟨A1, n1, cap1, f1, rfl, le1, mx1, wf1, rd1⟩ := open_slice_ints Try.underlying55 Try.underlying5 (by kernel_rfl) (hval 1 55 v1 rfl rfl) h1
  refine ⟨⟨rfl, rfl, rfl⟩, ?_⟩
  exact walk A0 n0 cap0 f0 A1 n1 cap1 f1 W (by omega) (by omega) rd0 (fun i => bounds_u16 (wf0 i)) rd1 (fun i => bounds_u8 (wf1 i))

theorem over : Rows.lifeStepsRow.holds Try.pinned (OpenSpec.ofChange Rows.lifeStepsSpec) :=
  OpenClaim.holds_of_wide 8 Try.f8 rfl rfl rfl rfl rfl rfl rfl ⟨rfl, rfl, rfl, rfl, rfl⟩ rfl rfl rfl rfl rfl (by kernel_rfl) Try.func8 (by kernel_rfl)
    (of_decide_eq_true (by kernel_rfl)) (by unfold Func.isWrapper; first | (rw [if_pos (by decide +kernel)]; kernel_rfl) | (rw [if_neg (by decide +kernel)]; exact ⟨rfl, rfl⟩))
    (fun os started H enc _ => lifted os started H enc)
theorem proved : Rows.LifeStepsSaid := over
#print axioms proved
end Go.Proofs.Ythdhfjcgboglfaa.lifeSteps
