/-
  For every row of 8-bit numbers LifeOrder answers true, and changes nothing: outcomes by time come by when their abort times are, alike ones by numbers; those that were answered ahead of them, as they came. No condition.
-/
import Derived.Test.YthdhfjcgboglfaaRows
import Derived.Test.YthdhfjcgboglfaaFr
import Derived.Test.YthdhfjcgboglfaaLifeY
import Derived.Deep.QuietTactic
namespace Go.Proofs.Ythdhfjcgboglfaa.lifeOrder
open Go.ChangeShapes Go.WideShapes Go.ChangeAt Go.RowKit
set_option linter.unusedVariables false
theorem own : ownKnob Try.prog.godebug = none := by kernel_rfl
theorem laid : laidOutB Try.prog = true := by kernel_rfl
set_option maxRecDepth 100000
set_option maxHeartbeats 4000000
theorem goA_le {a u : Int} (h0 : a ≤ u) (h1 : u < 4611686018427387904) : goA a u = 0 := by unfold goA; rw [if_pos h1, if_neg (by omega)]
theorem pair_at {R : Int → Int → Prop} {o : List Ft} (h : (o.map Ft.id).Pairwise R) {i : Nat} {x y : Ft} (hx : o[i]? = some x) (hy : o[i + 1]? = some y) : R x.id y.id := by
  obtain ⟨h1, rfl⟩ := List.getElem?_eq_some_iff.1 hx
  obtain ⟨h2, rfl⟩ := List.getElem?_eq_some_iff.1 hy
  have := List.pairwise_iff_getElem.1 h i (i + 1) (by rw [List.length_map]; exact h1) (by rw [List.length_map]; exact h2) (by omega)
  simpa using this
theorem walk (A : Option Addr) (n cap : Nat) (f : Nat → Int) (w : World) (hm : n ≤ maxLen) (rd : Rd w A n (fun j => .int .u8 (f j))) (hf : ∀ j, 0 ≤ f j ∧ f j ≤ 255) :
    Calls Try.prog 6 #[.slice A n cap] w fun r w' => r = .returned (.bool true) ∧ Below w.heap.size w w' := by
  unfold maxLen at hm
  have RD := Lib.hid rd
  have HF := Lib.hid hf
  clear rd hf
  have AW := Lib.hid (awake_c w)
  by_cases hbig : 64 < n
  · have d1 : decide (64 < (n : Int)) = true := decide_eq_true (by omega)
    have d1' : decide (64 < n) = true := decide_eq_true hbig
    go_enter Try.func6, Try.ntmps6
    go_wp2_with fail
    refine AW.out.mono ?_
    rintro e w1 ⟨rfl, s1⟩
    have N1 := Lib.hid (bNew_o (c := 5) s1 (by kernel_rfl))
    clear AW s1
    go_wp2_with fail
    refine N1.out.mono ?_
    rintro e w2 ⟨g, rfl, s2⟩
    have S3 := Lib.hid (show St w None w2 [BookR g (Bk.new 5)] from s2)
    clear N1 s2
    go_wp2_with fail
    go_ret
    exact ⟨rfl, S3.out.below⟩
  have d1 : decide (64 < (n : Int)) = false := decide_eq_false (by omega)
  have d1' : decide (64 < n) = false := decide_eq_false hbig
  go_enter Try.func6, Try.ntmps6
  go_wp2_with fail
  refine AW.out.mono ?_
  rintro e w1 ⟨rfl, s1⟩
  have N1 := Lib.hid (bNew_o (c := 5) s1 (by kernel_rfl))
  clear AW s1
  go_wp2_with fail
  refine N1.out.mono ?_
  rintro e w2 ⟨g, rfl, s2⟩
  have S3 := Lib.hid (show St w None w2 [BookR g (Bk.new 5)] from s2)
  clear N1 s2
  have HD := Lib.hid (show ∀ k, k < n → 0 + 5 < (fun k => 6 + f k) k ∧ (fun k => 6 + f k) k < 4611686018427387904 from fun k _ => by have := HF.out k; dsimp only; omega)
  go_wp2_with fail
  go_loopw [5] (fun x wr => ∃ k : Nat, k ≤ n ∧ x = .int .i64 (k : Int) ∧ St w None wr [BookR g ⟨5, 0, opN (fun k => 6 + f k) k, []⟩]) (fun i _ => n - (intOf i).toNat)
  case atStart => exact ⟨0, by omega, rfl, by rw [opN_0]; exact S3.out⟩
  case round =>
  clear S3
  obtain ⟨k, hk, rfl, sr⟩ := hrel
  by_cases hlt : k < n
  · obtain ⟨ib, off, rfl, hib, hrd⟩ := RD.out (by omega)
    have z1 : decide ((k : Int) < (n : Int)) = true := decide_eq_true (by omega)
    have z1' : decide (k < n) = true := decide_eq_true hlt
    have e0 : wr.cell? ⟨ib, off + k, none⟩ = some (.int .u8 (f k)) := (sr.below.cell (p := ⟨ib, off + k, none⟩) hib).trans (hrd k hlt)
    have hfk := HF.out k
    have K1 := Lib.hid (bOpen_o (id := (k : Int)) (dead := 6 + f k) sr 0 rfl (wf_small (by omega) (by omega)) (by omega) (by omega))
    have ea : opnA ⟨5, 0, opN (fun k => 6 + f k) k, []⟩ (k : Int) (6 + f k) = 0 := opnA_N (D := fun k => 6 + f k) (by omega) (HD.out k hlt).1 (HD.out k hlt).2
    have eo : (⟨5, 0, opN (fun k => 6 + f k) k, []⟩ : Bk).opn (k : Int) (6 + f k) = ⟨5, 0, opN (fun k => 6 + f k) (k + 1), []⟩ := opn_N (D := fun k => 6 + f k) (by omega) (HD.out k hlt).1 (HD.out k hlt).2
    rw [ea, eo] at K1
    clear hrd sr ea eo
    go_wp2_with fail
    refine K1.out.mono ?_
    rintro e w4 ⟨rfl, s4⟩
    have S4 := Lib.hid s4
    clear s4 K1 e0
    go_wp2_with fail
    go_roundw
    case rel => exact ⟨k + 1, by omega, by go_num, S4.out⟩
    case measure => simp [intOf]; omega
  obtain rfl : k = n := by omega
  have z1 : decide ((k : Int) < (k : Int)) = false := decide_eq_false (by omega)
  have z1' : decide (k < k) = false := decide_eq_false hlt
  have S5 := Lib.hid sr
  clear sr hlt
  go_wp2_with fail
  go_loopw [6] (fun x wr => ∃ (j : Nat) (s : Bk), j ≤ k ∧ x = .int .i64 ((j : Int) - 1) ∧ AnsS (fun k => 6 + f k) k j s ∧ St w None wr [BookR g s]) (fun i _ => (intOf i + 1).toNat)
  case atStart => exact ⟨k, _, by omega, by go_num, AnsS.new (by omega) HD.out, S5.out⟩
  case round =>
  clear S5 z1 z1'
  obtain ⟨j, s, hj, rfl, ha, sr⟩ := hrel
  have HA := Lib.hid ha
  cases j with
  | succ i =>
    rw [show (((i + 1 : Nat) : Int) - 1) = (i : Int) by omega]
    have z1 : decide (0 ≤ (i : Int)) = true := decide_eq_true (by omega)
    by_cases h5 : (i : Int) % 5 = 0
    · have z2 : ((i : Int) % 5 == 0) = true := by simp [h5]
      have e256 : (i : Int) % 256 = i := Int.emod_eq_of_lt (by omega) (by omega)
      obtain ⟨ea, hn⟩ := ha.ans (by omega) (by omega) (by omega) (st := (i : Int)) (by omega) (by omega) ((i : Int) % 2 == 1)
      have K1 := Lib.hid (bAnswer_o (id := (i : Int)) sr 0 rfl (wf_small (by omega) (by omega)) (by have := ha.cnt; omega) (i : Int) ((i : Int) % 2 == 1))
      have HN := Lib.hid hn
      rw [ea] at K1
      clear sr ha hn ea h5
      go_wp2_with fail
      refine K1.out.mono ?_
      rintro e w4 ⟨rfl, s4⟩
      have S4 := Lib.hid s4
      clear s4 K1
      go_wp2_with fail
      go_roundw
      case rel => exact ⟨i, _, by omega, rfl, HN.out, S4.out⟩
      case measure => simp [intOf]
    · have z2 : ((i : Int) % 5 == 0) = false := by simpa using h5
      have HN := Lib.hid (ha.skip (by omega))
      have SR := Lib.hid sr
      clear sr ha h5
      go_wp2_with fail
      go_roundw
      case rel => exact ⟨i, s, by omega, rfl, HN.out, SR.out⟩
      case measure => simp [intOf]
  | zero =>
    have hg := goA_le (a := s.now) (u := 1000) (by rw [ha.now]; omega) (by omega)
    have GG := Lib.hid (bGo_o (u := 1000) sr 0 rfl (by omega) (by have := ha.cnt; omega))
    rw [hg] at GG
    have TO := Lib.hid (fun o (ho : OutP s 1000 o) => ha.told hg (fun i _ => by have := HF.out i; omega) ho)
    clear sr ha hg HA
    have z1 : decide ((0 : Int) ≤ ((0 : Nat) : Int) - 1) = false := rfl
    go_wp2_with fail
    refine GG.out.mono ?_
    rintro e w5 ⟨B, no, dd, o, rfl, ho, hno, hno9, s5⟩
    obtain ⟨hlen, hpw⟩ := TO.out o ho
    obtain rfl : no = k := by omega
    have S5 := Lib.hid s5
    have HP := Lib.hid hpw
    have HNO := Lib.hid hno
    have z5 : ((no : Int) != (no : Int)) = false := by simp
    have z5' : (no != no) = false := by simp
    clear GG TO ho s5 hlen hpw hno
    go_wp2_with fail
    go_loopw [9, 10, 11] (fun x9 x10 x11 wx => ∃ m : Nat, x9 = .int .i64 ((m + 1 : Nat) : Int) ∧ St w None wx [BookR g (s.gon 1000), LisR 50 3 (.slice B no dd) no (fvs o)]) (fun i _ _ _ => no - (intOf i).toNat)
    case atStart => exact ⟨0, rfl, S5.out⟩
    case round =>
    clear S5 z5 z5'
    obtain ⟨m, rfl, sr⟩ := hrel
    by_cases hm1 : m + 1 < no
    · have y1 : decide (((m + 1 : Nat) : Int) < (no : Int)) = true := decide_eq_true (by omega)
      have y1' : decide (m + 1 < no) = true := decide_eq_true hm1
      obtain ⟨fx, hfx⟩ : ∃ fx, o[m]? = some fx := ⟨_, List.getElem?_eq_getElem (by rw [HNO.out]; omega)⟩
      obtain ⟨fy, hfy⟩ : ∃ fy, o[m + 1]? = some fy := ⟨_, List.getElem?_eq_getElem (by rw [HNO.out]; omega)⟩
      obtain ⟨a, b, ea, eb, han, hbn, hway⟩ := pair_at HP.out hfx hfy
      have c0 := (fvs_at o m fx hfx).1
      have c1 := (fvs_at o (m + 1) fy hfy).1
      obtain ⟨gb, off, rfl, hcl⟩ := (sr.lis 1 rfl).reads.2.resolve_left (by omega)
      have x0 := hcl _ _ c0
      have x1 := hcl _ _ c1
      rw [ea] at x0
      rw [eb] at x1
      obtain ⟨ib, io, rfl, hib, hrd⟩ := RD.out (by omega)
      have r0 : wr.cell? ⟨ib, io + a, none⟩ = some (.int .u8 (f a)) := (sr.below.cell (p := ⟨ib, io + a, none⟩) hib).trans (hrd a han)
      have r1 : wr.cell? ⟨ib, io + b, none⟩ = some (.int .u8 (f b)) := (sr.below.cell (p := ⟨ib, io + b, none⟩) hib).trans (hrd b hbn)
      have SR := Lib.hid sr
      have m0 : (0 : Int) ≤ (m : Int) := by omega
      have m1 : (m : Int) < (no : Int) := by omega
      have m2 : (m : Int) + 1 < (no : Int) := by omega
      have a0 : (0 : Int) ≤ (a : Int) := by omega
      have a1 : (a : Int) < (no : Int) := by omega
      have b0 : (0 : Int) ≤ (b : Int) := by omega
      have b1 : (b : Int) < (no : Int) := by omega
      have hwm : IntKind.i64.wrap (((m + 1 : Nat) : Int) - 1) = (m : Int) := by rw [IntWalk.i64_in _ ⟨by omega, by omega⟩]; omega
      clear c0 c1 hcl sr hrd ea eb hfx hfy
      dsimp only at hway
      generalize f a = fa at *
      generalize f b = fb at *
      rcases hway with ⟨u1, u2, u3⟩ | ⟨u1, u2⟩ | ⟨u1, u2, u3⟩
      · have t1 : ((a : Int) % 5 == 0) = true := beq_iff_eq.2 (by omega)
        have t2 : ((b : Int) % 5 == 0) = true := beq_iff_eq.2 (by omega)
        have t3 : decide ((a : Int) ≤ (b : Int)) = false := decide_eq_false (by omega)
        have t3' : decide (a ≤ b) = false := decide_eq_false (by omega)
        have t4 : ((a : Int) % 5 != 0) = false := by simp; omega
        clear u1 u2 u3
        go_wp2_with fail
        go_quiet (fail)
        go_wp2_with fail
        go_roundw
        case rel => exact ⟨m + 1, by go_num, SR.out.drewN _⟩
        case measure => simp [intOf]; omega
      · have t1 : ((a : Int) % 5 == 0) = true := beq_iff_eq.2 (by omega)
        have t2 : ((b : Int) % 5 == 0) = false := beq_eq_false_iff_ne.2 (by omega)
        have t4 : ((a : Int) % 5 != 0) = false := by simp; omega
        clear u1 u2
        go_wp2_with fail
        go_quiet (fail)
        go_wp2_with fail
        go_roundw
        case rel => exact ⟨m + 1, by go_num, SR.out.drewN _⟩
        case measure => simp [intOf]; omega
      · have t1 : ((a : Int) % 5 == 0) = false := beq_eq_false_iff_ne.2 (by omega)
        have t2 : ((b : Int) % 5 == 0) = false := beq_eq_false_iff_ne.2 (by omega)
        have t4 : ((a : Int) % 5 != 0) = true := by simp; omega
        have t5 : ((b : Int) % 5 != 0) = true := by simp; omega
        have t6 : decide (fb < fa) = false := decide_eq_false (by omega)
        by_cases he : fa = fb
        · have t7 : (fa == fb) = true := beq_iff_eq.2 he
          have t8 : decide ((b : Int) ≤ (a : Int)) = false := decide_eq_false (by omega)
          have t8' : decide (b ≤ a) = false := decide_eq_false (by omega)
          clear u1 u2 u3 he
          go_wp2_with fail
          go_quiet (fail)
          go_wp2_with fail
          go_roundw
          case rel => exact ⟨m + 1, by go_num, SR.out.drewN _⟩
          case measure => simp [intOf]; omega
        · have t7 : (fa == fb) = false := beq_eq_false_iff_ne.2 he
          clear u1 u2 u3 he
          go_wp2_with fail
          go_quiet (fail)
          go_wp2_with fail
          go_roundw
          case rel => exact ⟨m + 1, by go_num, SR.out.drewN _⟩
          case measure => simp [intOf]; omega
    · have y1 : decide (((m + 1 : Nat) : Int) < (no : Int)) = false := decide_eq_false (by omega)
      have y1' : decide (m + 1 < no) = false := decide_eq_false hm1
      have SB := Lib.hid sr.below
      clear sr
      go_wp2_with fail
      go_ret
      exact ⟨rfl, SB.out⟩

set_option maxRecDepth 100000 in
theorem lifted (os : Os) (started : os.Started) (H : Type) (enc : TypeId × Value → H) :
    ReturnsInHanded {} Try.checked os 6 .any (Rows.lifeOrderSpec.pre6 enc Try.prog Try.f6 Rows.lifeOrderRow.domain false) (Rows.lifeOrderSpec.post enc Try.prog Try.f6 false true false false) := by
  refine law_lifted (C := Try.checked) (tb := 4) own started (by kernel_rfl) Try.func6
    (ChangeSpec.witness6 (enc := enc) (C := Try.checked) false ⟨#[], #[.slice none 0 0], []⟩ 8 (by kernel_rfl) (by kernel_rfl) (by kernel_rfl) (by kernel_rfl)) laid (by kernel_rfl) (by kernel_rfl) Try.underlying4 rfl ?_
  intro W base args ds ps hval0 hA0 hlt
  have hval : ∀ (j : Nat) t v, Try.f6.params[j]? = some t → args[j]? = some v → Value.okWide Try.prog W .any base t v := hval0
  have hA : DataW.TrodAll enc Try.prog W 0 (fun _ => true) true Try.f6.params.toList args.toList ds ps := hA0
  clear hA0 hval0
  rw [Try.params6] at hA hval
  obtain ⟨v0, vs0, d0, ds0, p0, q0, hargs, rfl, rfl, h0, r0⟩ := trodAll_cons hA
  obtain ⟨rfl, rfl, rfl⟩ := trodAll_nil r0
  obtain rfl : args = #[v0] := by cases args; simp_all
  obtain ⟨A0, n0, cap0, f0, rfl, le0, mx0, wf0, rd0⟩ := open_slice_ints Try.underlying55 Try.underlying5 (by kernel_rfl) (hval 0 55 v0 rfl rfl) h0
  refine ⟨⟨rfl, rfl, rfl⟩, ?_⟩
  exact walk A0 n0 cap0 f0 W (by omega) rd0 (fun i => bounds_u8 (wf0 i))

theorem over : Rows.lifeOrderRow.holds Try.pinned (OpenSpec.ofChange Rows.lifeOrderSpec) :=
  OpenClaim.holds_of_wide 6 Try.f6 rfl rfl rfl rfl rfl rfl rfl ⟨rfl, rfl, rfl, rfl, rfl⟩ rfl rfl rfl rfl rfl (by kernel_rfl) Try.func6 (by kernel_rfl)
    (of_decide_eq_true (by kernel_rfl)) (by unfold Func.isWrapper; first | (rw [if_pos (by decide +kernel)]; kernel_rfl) | (rw [if_neg (by decide +kernel)]; exact ⟨rfl, rfl⟩))
    (fun os started H enc _ => lifted os started H enc)
theorem proved : Rows.LifeOrderSaid := over
#print axioms proved
end Go.Proofs.Ythdhfjcgboglfaa.lifeOrder
