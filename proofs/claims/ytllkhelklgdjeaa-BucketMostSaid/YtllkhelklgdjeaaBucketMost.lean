/-
  For every depth, rate and slice of bytes BucketMost answers true, and changes nothing: in any span no more are taken than the document's bound. No condition.
-/
import Derived.Test.YtllkhelklgdjeaaRows
import Derived.Test.YtllkhelklgdjeaaFr
import Derived.Test.YtllkhelklgdjeaaBuckL
import Derived.Test.YtllkhelklgdjeaaSep
import Derived.LoopTactic
namespace Go.Proofs.Ytllkhelklgdjeaa.bucketMost
open Go.ChangeShapes Go.WideShapes Go.ChangeAt Go.RowKit
set_option linter.unusedVariables false
theorem own : ownKnob Try.prog.godebug = none := by kernel_rfl
theorem laid : laidOutB Try.prog = true := by kernel_rfl
set_option maxRecDepth 100000
set_option maxHeartbeats 1000000
theorem tk_le2 {D E N T now : Int} (hD : T + (now / E - N / E) ≤ T + (now / E - N / E)) : tk D E N T now ≤ T + (now / E - N / E) := by unfold tk; split <;> omega
theorem tk_same {D E N T : Int} (h : T ≤ D) : tk D E N T N = T := by unfold tk; split <;> omega
theorem ediv_add_le {f s E : Int} (hE : 1 ≤ E) (hf : 0 ≤ f) (hs : 0 ≤ s) : (f + s) / E ≤ f / E + s / E + 1 := by
  have h1 := Int.lt_ediv_add_one_mul_self f (show 0 < E by omega)
  have h2 := Int.lt_ediv_add_one_mul_self s (show 0 < E by omega)
  have h3 : (f + s) / E < f / E + s / E + 2 := by
    apply Int.ediv_lt_of_lt_mul (by omega)
    have e : (f / E + s / E + 2) * E = (f / E + 1) * E + (s / E + 1) * E := by rw [← Int.add_mul]; congr 1; omega
    omega
  omega
/-- What is known ahead of time t: A tells how many were taken ahead of each time. -/
structure OO (D E : Int) (A : Nat → Int) (t : Nat) (N T : Int) : Prop where
  bnd : ∀ i, 0 ≤ A i ∧ A i ≤ 4 * t
  mono : ∀ f to : Nat, f ≤ to → to ≤ t → A f ≤ A to
  hist : ∀ f to : Nat, f ≤ to → to ≤ t → A to ≤ A f + D + (to : Int) / E - (f : Int) / E
  pot : ∀ f : Nat, f < t → A t + tk D E N T t ≤ A f + D + (t : Int) / E - (f : Int) / E
/-- Within time t: x were taken so far. -/
structure JJ (D E : Int) (A : Nat → Int) (t i : Nat) (x N T : Int) : Prop where
  lo : A t ≤ x
  hi : x ≤ A t + i
  pot : ∀ f : Nat, f ≤ t → x + tk D E N T t ≤ A f + D + (t : Int) / E - (f : Int) / E
theorem OO.zero {D E : Int} (hD : 0 ≤ D) : OO D E (fun _ => 0) 0 0 D := by
  refine ⟨fun i => by omega, fun f to h1 h2 => by omega, fun f to h1 h2 => ?_, fun f hf => by omega⟩
  obtain rfl : f = to := by omega
  omega
theorem OO.inn {D E N T : Int} {A : Nat → Int} {t : Nat} (h : OO D E A t N T) (hd : tk D E N T t ≤ D) : JJ D E A t 0 (A t) N T :=
  ⟨by omega, by omega, fun f hf => by
    by_cases e : f = t
    · subst e; omega
    · exact h.pot f (by omega)⟩
theorem JJ.yes {D E N T v x : Int} {A : Nat → Int} {t i : Nat} (h : JJ D E A t i x N T) (hv : tk D E N T t = v + 1) (hd : v + 1 ≤ D) : JJ D E A t (i + 1) (x + 1) t v :=
  ⟨by have := h.lo; omega, by have := h.hi; omega, fun f hf => by have := h.pot f hf; rw [tk_same (by omega)]; omega⟩
theorem JJ.no {D E N T x : Int} {A : Nat → Int} {t i : Nat} (h : JJ D E A t i x N T) (hv : tk D E N T t = 0) (hd : 0 ≤ D) : JJ D E A t (i + 1) x t 0 :=
  ⟨h.lo, by have := h.hi; omega, fun f hf => by have := h.pot f hf; rw [tk_same (by omega)]; omega⟩
theorem JJ.out {D E N T x N0 T0 : Int} {A : Nat → Int} {t i : Nat} (hE : 1 ≤ E) (o : OO D E A t N0 T0) (h : JJ D E A t i x N T) (hi : i ≤ 4) (hd : tk D E N T t ≤ D) (hd0 : 0 ≤ tk D E N T t) : OO D E (fun j => if j = t + 1 then x else A j) (t + 1) t (tk D E N T t) := by
  have hl := h.lo
  have hh := h.hi
  have hb := o.bnd t
  have hdiv : (t : Int) / E ≤ ((t + 1 : Nat) : Int) / E := Int.ediv_le_ediv (by omega) (by omega)
  have htk := tk_le2 (D := D) (E := E) (N := t) (T := tk D E N T t) (now := ((t + 1 : Nat) : Int)) (Int.le_refl _)
  refine ⟨fun j => ?_, fun f to h1 h2 => ?_, fun f to h1 h2 => ?_, fun f hf => ?_⟩
  · split
    · omega
    · have := o.bnd j; omega
  · by_cases e : to = t + 1
    · rw [if_pos e]
      by_cases e2 : f = t + 1
      · rw [if_pos e2]; exact Int.le_refl _
      · rw [if_neg e2]; have := o.mono f t (by omega) (Nat.le_refl _); omega
    · rw [if_neg e, if_neg (by omega)]; exact o.mono f to h1 (by omega)
  · by_cases e : to = t + 1
    · rw [if_pos e]
      by_cases e2 : f = t + 1
      · rw [if_pos e2]; subst e; subst e2; omega
      · rw [if_neg e2]
        have := h.pot f (by omega)
        subst e
        omega
    · rw [if_neg e, if_neg (by omega)]; exact o.hist f to h1 (by omega)
  · rw [if_pos rfl, if_neg (by omega)]
    have := h.pot f (by omega)
    omega
theorem OO.done {D E N T : Int} {A : Nat → Int} {t : Nat} (hE : 1 ≤ E) (o : OO D E A t N T) {f to : Nat} (h1 : f ≤ to) (h2 : to ≤ t) : 0 ≤ A to - A f ∧ A to - A f ≤ D + ((to : Int) - f) / E + 1 := by
  have m := o.mono f to h1 h2
  have h := o.hist f to h1 h2
  have := ediv_add_le (f := f) (s := (to : Int) - f) hE (by omega) (by omega)
  rw [show (f : Int) + (to - f) = to by omega] at this
  omega
theorem at_next (A : Nat → Int) (t : Nat) (x : Int) : (fun j => if j = t + 1 then Value.int .i64 x else Value.int .i64 (A j)) = fun j => Value.int .i64 (if j = t + 1 then x else A j) := by funext j; split <;> rfl
theorem at_again (A : Nat → Int) (t : Nat) (x y : Int) : (fun j => if j = t + 1 then Value.int .i64 y else Value.int .i64 (if j = t + 1 then x else A j)) = fun j => Value.int .i64 (if j = t + 1 then y else A j) := by funext j; split <;> rfl
theorem Ytllkhelklgdjeaai : (Try.prog.info? 3).map (fun i => (i.zero, i.size, i.bytes)) = some (some (.int .i64 0), 1, 8) := by kernel_rfl
theorem walk (a b : Int) (B : Option Addr) (n cap : Nat) (f : Nat → Int) (w : World) (ba : 0 ≤ a ∧ a ≤ 255) (bb : 0 ≤ b ∧ b ≤ 255) (hm : n ≤ maxLen) (rd : Rd w B n (fun i => .int .u8 (f i))) (hf : ∀ i, 0 ≤ f i ∧ f i ≤ 255) :
    Calls Try.prog 3 #[.int .u8 a, .int .u8 b, .slice B n cap] w fun r w' => r = .returned (.bool true) ∧ Below w.heap.size w w' := by
  unfold maxLen at hm
  have g0 : 0 ≤ a % 20 := Int.emod_nonneg _ (by omega)
  have g1 : a % 20 < 20 := Int.emod_lt_of_pos _ (by omega)
  have q0 : 0 ≤ b % 30 := Int.emod_nonneg _ (by omega)
  have q1 : b % 30 < 30 := Int.emod_lt_of_pos _ (by omega)
  obtain ⟨D, hD⟩ : ∃ D, 1 + a % 20 = D := ⟨_, rfl⟩
  obtain ⟨E, hE⟩ : ∃ E, 1 + b % 30 = E := ⟨_, rfl⟩
  have bD : 1 ≤ D ∧ D ≤ 20 := by omega
  have bE : 1 ≤ E ∧ E ≤ 30 := by omega
  have mk : ∀ W : World, (Instr.makeSlice 29 (.int .i64 301) (.int .i64 301)).run Try.prog W = .ok (.slice (some ⟨W.heap.size, 0, none⟩) 301 301) (W.alloc (.cells (madeCells #[.int .i64 0] 301) 3)) := by
    obtain ⟨i0, hi, hz0, hz1, hz2⟩ := info_parts Ytllkhelklgdjeaai
    intro W
    exact run_make_rowN (P := Try.prog) 29 3 i0 (.int .i64 0) Try.underlying29 hi hz0 rfl hz1 .i64 .i64 301 (by rw [hz2]; omega) (by omega) W
  by_cases hn0 : n = 0
  · subst hn0
    clear mk
    go_enter Try.func3, Try.ntmps3
    go_wp2_with fail
    refine (looks (awake_any _) (St.begin w)).mono ?_
    rintro r w1 ⟨rfl, s1⟩
    go_wp2_with fail
    refine (new_ok D E _ (by omega)).mono ?_
    rintro r w2 ⟨rfl, hb, hz, hn⟩
    go_wp2
    go_ret
    exact ⟨rfl, (s1.stay hn).below⟩
  · have dn : decide ((n : Int) = 0) = false := decide_eq_false (by omega)
    have dn2 : ((n : Int) == 0) = false := beq_eq_false_iff_ne.2 (by omega)
    have dn3 : (n == 0) = false := beq_eq_false_iff_ne.2 hn0
    go_enter Try.func3, Try.ntmps3
    go_wp2_with fail
    refine (looks (awake_any _) (St.begin w)).mono ?_
    rintro r w1 ⟨rfl, s1⟩
    go_wp2_with fail
    refine (new_ok D E _ (by omega)).mono ?_
    rintro r w2 ⟨rfl, hb, hz, hn⟩
    have s2 : St w None w2 [_] := s1.more hn (Star.one (BlkR.ok w1.heap.size 47 #[.int .u64 D, .int .u64 E, .int .u64 0, .int .u64 D]) ⟨hb, fun b => Iff.rfl⟩) (fun b hb => by have hb : b = w1.heap.size := hb; omega)
    have s3 : St w None _ [_, _] := s2.made_row 3 301 (.int .i64 0)
    generalize w1.heap.size = bk at *
    clear hb hz hn s1 s2
    go_wp2_with fail
    generalize w2.heap.size = ab at *
    clear mk hD hE g0 g1 q0 q1
    have O0 := OO.zero (D := D) (E := E) (by omega)
    go_loopw [12] (fun x wr => ∃ (t : Nat) (A : Nat → Int) (N T : Int), t ≤ 300 ∧ x = .int .i64 t ∧ 0 ≤ N ∧ N ≤ t ∧ 0 ≤ T ∧ T ≤ D ∧ OO D E A t N T ∧ St w None wr [BlkR bk 47 #[.int .u64 D, .int .u64 E, .int .u64 N, .int .u64 T], ArrR ab 3 301 (fun i => .int .i64 (A i))]) (fun x _ => 300 - (intOf x).toNat)
    case atStart => exact ⟨0, _, _, _, by omega, rfl, by omega, by omega, by omega, by omega, O0, s3⟩
    case round =>
      clear s3 O0
      obtain ⟨t, A, N, T, ht, rfl, n0, n1, t0, t1, ho, sr⟩ := hrel
      by_cases hlt : t < 300
      · have bd := tk_bd (D := D) (E := E) (N := N) (T := T) (now := t) n0 n1 bE.1 t0 t1
        have cA := sr.arr_cell 1 rfl (show t < 301 by omega)
        have cA1 := sr.arr_cell 1 rfl (show t + 1 < 301 by omega)
        have fA := sr.arr_frozen 1 rfl (t + 1)
        have s4' := sr.arr_set 1 rfl (show t + 1 < 301 by omega) (.int .i64 (A t))
        rw [at_next] at s4'
        have s4 : St w None _ [_, _] := s4'
        have HJ := Lib.hid (ho.inn bd.2)
        have HO := Lib.hid ho
        have S4 := Lib.hid s4
        have bA := ho.bnd t
        obtain ⟨wo, rfl⟩ : ∃ wo : World, wo = wr := ⟨_, rfl⟩
        obtain ⟨x, hx⟩ : ∃ x, A t = x := ⟨_, rfl⟩
        rw [hx] at cA S4 bA HJ
        have HX := Lib.hid hx
        generalize A (t + 1) = y at *
        clear s4 s4' sr ho hx
        have dt : decide ((t : Int) < 300) = true := decide_eq_true (by omega)
        go_wp2_with fail
        have s4 := S4.out
        have fk := hf (t % n)
        have m0 : 0 ≤ f (t % n) % 5 := Int.emod_nonneg _ (by omega)
        have m1 : f (t % n) % 5 < 5 := Int.emod_lt_of_pos _ (by omega)
        clear S4 cA cA1 fA
        go_loopw [13, 14, 15] (fun y _ _ wr => ∃ (i : Nat) (x N T : Int), (i : Int) ≤ f (t % n) % 5 ∧ y = .int .i64 i ∧ 0 ≤ N ∧ N ≤ t ∧ 0 ≤ T ∧ T ≤ D ∧ JJ D E A t i x N T ∧ St w None wr [BlkR bk 47 #[.int .u64 D, .int .u64 E, .int .u64 N, .int .u64 T], ArrR ab 3 301 (fun j => .int .i64 (if j = t + 1 then x else A j))]) (fun y _ _ _ => 5 - (intOf y).toNat)
        case atStart => exact ⟨0, x, N, T, by omega, rfl, n0, n1, t0, t1, HJ.out, s4⟩
        case round =>
          clear s4 HJ bA bd
          obtain ⟨i, x, N, T, hi, rfl, n0, n1, t0, t1, hj, sr⟩ := hrel
          have bd := tk_bd (D := D) (E := E) (N := N) (T := T) (now := t) n0 n1 bE.1 t0 t1
          obtain ⟨sb, off, rfl, hsb, hcell⟩ := rd (by omega)
          have hy : wr.cell? ⟨sb, off + t % n, none⟩ = some (.int .u8 (f (t % n))) := (sr.cell (p := ⟨sb, off + t % n, none⟩) hsb id).trans (hcell _ (Nat.mod_lt _ (by omega)))
          have hkn : t % n < n := Nat.mod_lt _ (by omega)
          clear hcell
          by_cases hl2 : (i : Int) < f (t % n) % 5
          · have hOK : BkOK D E N T := ⟨by omega, by omega, by omega, by omega, by omega, by omega, by omega⟩
            by_cases hv : tk D E N T t = 0
            · have HJ := Lib.hid (hj.no hv (by omega))
              have HV := Lib.hid hv
              clear hj hv bd
              go_wp2_with fail
              refine (take_no bk D E N T t _ (sr.blk 0 rfl) hOK n1 (by omega) HV.out).mono ?_
              rintro e w6 ⟨rfl, hb6, ho6⟩
              have s6 : St w None w6 [_, _] := sr.blk_turn 0 rfl hb6 ho6
              go_wp2
              go_roundw
              case rel => exact ⟨i + 1, x, t, 0, by omega, by go_num, by omega, by omega, by omega, by omega, HJ.out, s6⟩
              case measure => simp [intOf]; omega
            · obtain ⟨v, hv'⟩ : ∃ v, tk D E N T t = v + 1 := ⟨tk D E N T t - 1, by omega⟩
              have HJ := Lib.hid (hj.yes hv' (by omega))
              have HV := Lib.hid hv'
              have bx := hj.lo
              have bx2 := hj.hi
              have hvb : 0 ≤ v ∧ v ≤ D := by omega
              have hA0 := HO.out.bnd t
              clear hj hv' hv bd
              go_wp2_with fail
              refine (take_y bk D E N T t v _ (sr.blk 0 rfl) hOK n1 (by omega) HV.out hvb.1).mono ?_
              rintro e w6 ⟨rfl, hb6, ho6⟩
              have s6 : St w None w6 [_, _] := sr.blk_turn 0 rfl hb6 ho6
              have c6 := s6.arr_cell 1 rfl (show t + 1 < 301 by omega)
              have f6 := s6.arr_frozen 1 rfl (t + 1)
              rw [if_pos rfl] at c6
              have s7' := s6.arr_set 1 rfl (show t + 1 < 301 by omega) (.int .i64 (x + 1))
              rw [at_again] at s7'
              have s7 : St w None _ [_, _] := s7'
              have S7 := Lib.hid s7
              clear s7 s7' s6 hb6 ho6 sr
              go_wp2
              go_roundw
              case rel => exact ⟨i + 1, x + 1, t, v, by omega, by go_num, by omega, by omega, by omega, by omega, HJ.out, S7.out⟩
              case measure => simp [intOf]; omega
          · have hOK : BkOK D E N T := ⟨by omega, by omega, by omega, by omega, by omega, by omega, by omega⟩
            obtain ⟨v, hv⟩ : ∃ v, tk D E N T t = v := ⟨_, rfl⟩
            have HO2 := Lib.hid (hj.out bE.1 HO.out (by omega) bd.2 bd.1)
            rw [hv] at HO2 bd
            have HV := Lib.hid hv
            have dv1 : decide (v < 0) = false := decide_eq_false (by omega)
            have dv2 : decide (D < v) = false := decide_eq_false (by omega)
            clear hj hv
            go_wp2_with fail
            refine (has_g bk D E N T t v _ (sr.blk 0 rfl) hOK n1 (by omega) HV.out).mono ?_
            rintro e w6 ⟨rfl, hb6, ho6⟩
            have s6 : St w None w6 [_, _] := sr.blk_turn 0 rfl hb6 ho6
            clear sr hb6 ho6
            go_wp2
            go_roundw
            case rel => exact ⟨t + 1, _, t, v, by omega, by go_num, by omega, by omega, by omega, by omega, HO2.out, s6⟩
            case measure => simp [intOf]; omega
      · obtain rfl : t = 300 := by omega
        have HO := Lib.hid ho
        clear ho
        go_wp2_with fail
        go_loopw [18, 19] (fun x _ wr => ∃ p : Nat, x = .int .i64 p ∧ p ≤ 306 ∧ St w None wr [BlkR bk 47 #[.int .u64 D, .int .u64 E, .int .u64 N, .int .u64 T], ArrR ab 3 301 (fun i => .int .i64 (A i))]) (fun x _ _ => 307 - (intOf x).toNat)
        case atStart => exact ⟨0, rfl, by omega, sr⟩
        case round =>
          clear sr
          obtain ⟨p, rfl, hp, sr⟩ := hrel
          by_cases hl2 : p < 300
          · have dp : decide ((p : Int) < 300) = true := decide_eq_true (by omega)
            obtain ⟨wo, rfl⟩ : ∃ wo : World, wo = wr := ⟨_, rfl⟩
            go_wp2_with fail
            go_loopw [19] (fun y wr => ∃ q : Nat, y = .int .i64 q ∧ p ≤ q ∧ q ≤ 311 ∧ St w None wr [BlkR bk 47 #[.int .u64 D, .int .u64 E, .int .u64 N, .int .u64 T], ArrR ab 3 301 (fun i => .int .i64 (A i))]) (fun y _ => 312 - (intOf y).toNat)
            case atStart => exact ⟨p, rfl, by omega, by omega, sr⟩
            case round =>
              clear sr
              obtain ⟨q, rfl, hpq, hq, sr⟩ := hrel
              by_cases hl3 : q ≤ 300
              · obtain ⟨d0, d1⟩ := HO.out.done bE.1 (f := p) (to := q) hpq hl3
                have c1 := sr.arr_cell 1 rfl (show p < 301 by omega)
                have c2 := sr.arr_cell 1 rfl (show q < 301 by omega)
                have b1 := HO.out.bnd p
                have b2 := HO.out.bnd q
                generalize A p = x at *
                generalize A q = y at *
                have HM := Lib.hid fun wz => most_any D E ((q : Int) - p) wz ⟨by omega, by omega, by omega, by omega⟩ (by omega) (by omega)
                have dq : decide (D + ((q : Int) - p) / E + 1 < y - x) = false := decide_eq_false (by omega)
                have i0 : (0 : Int) ≤ (p : Int) := by omega
                have i1 : (p : Int) < 301 := by omega
                have i2 : (0 : Int) ≤ (q : Int) := by omega
                have i3 : (q : Int) < 301 := by omega
                have w1 : IntKind.i64.wrap (y - x) = y - x := IntWalk.i64_in _ ⟨by omega, by omega⟩
                have w2 : IntKind.i64.wrap ((q : Int) - p) = (q : Int) - p := IntWalk.i64_in _ ⟨by omega, by omega⟩
                have w3 : IntKind.u64.wrap (y - x) = y - x := IntWalk.u64_in _ ⟨by omega, by omega⟩
                have w4 : IntKind.u64.wrap ((q : Int) - p) = (q : Int) - p := IntWalk.u64_in _ ⟨by omega, by omega⟩
                have w5 : IntKind.u64.wrap E = E := IntWalk.u64_in _ ⟨by omega, by omega⟩
                clear d0 d1 b1 b2
                go_wp2_with fail
                go_quiet ((go_at_call 12; first | exact q_left (HM.out _) | exact q_add (HM.out _)))
                go_wp2_with fail
                go_roundw
                case rel => exact ⟨q + 11, by go_num, by omega, by omega, by first | exact sr | exact sr.drewN _⟩
                case measure => simp [intOf]; omega
              · go_wp2
                go_roundw
                case rel => exact ⟨p + 7, by go_num, by omega, sr⟩
                case measure => simp [intOf]; omega
          · go_wp2
            go_ret
            exact ⟨rfl, sr.below⟩

set_option maxRecDepth 100000 in
theorem lifted (os : Os) (started : os.Started) (H : Type) (enc : TypeId × Value → H) :
    ReturnsInHanded {} Try.checked os 3 .any (Rows.bucketMostSpec.pre6 enc Try.prog Try.f3 Rows.bucketMostRow.domain false) (Rows.bucketMostSpec.post enc Try.prog Try.f3 false true false false) := by
  refine law_lifted (C := Try.checked) (tb := 4) own started (by kernel_rfl) Try.func3
    (ChangeSpec.witness6 (enc := enc) (C := Try.checked) false ⟨#[], #[.int .u8 0, .int .u8 0, .slice none 0 0], []⟩ 8 (by kernel_rfl) (by kernel_rfl) (by kernel_rfl) (by kernel_rfl)) laid (by kernel_rfl) (by kernel_rfl) Try.underlying4 rfl ?_
  intro W base args ds ps hval0 hA0 hlt
  have hval : ∀ (j : Nat) t v, Try.f3.params[j]? = some t → args[j]? = some v → Value.okWide Try.prog W .any base t v := hval0
  have hA : DataW.TrodAll enc Try.prog W 0 (fun _ => true) true Try.f3.params.toList args.toList ds ps := hA0
  clear hA0 hval0
  rw [Try.params3] at hA hval
  obtain ⟨v0, vs0, d0, ds0, p0, q0, hargs, rfl, rfl, h0, r0⟩ := trodAll_cons hA
  obtain ⟨v1, vs1, d1, ds1, p1, q1, rfl, rfl, rfl, h1, r1⟩ := trodAll_cons r0
  obtain ⟨v2, vs2, d2, ds2, p2, q2, rfl, rfl, rfl, h2, r2⟩ := trodAll_cons r1
  obtain ⟨rfl, rfl, rfl⟩ := trodAll_nil r2
  obtain rfl : args = #[v0, v1, v2] := by cases args; simp_all
  obtain ⟨a0, rfl, rfl, rfl, w0⟩ := open_int Try.underlying5 (hval 0 5 v0 rfl rfl) h0
  obtain ⟨a1, rfl, rfl, rfl, w1⟩ := open_int Try.underlying5 (hval 1 5 v1 rfl rfl) h1
  obtain ⟨A2, n2, cap2, f2, rfl, le2, mx2, wf2, rd2⟩ := open_slice_ints Try.underlying22 Try.underlying5 (by kernel_rfl) (hval 2 22 v2 rfl rfl) h2
  refine ⟨⟨rfl, rfl, rfl⟩, ?_⟩
  exact walk a0 a1 A2 n2 cap2 f2 W (bounds_u8 w0) (bounds_u8 w1) (by omega) rd2 (fun i => bounds_u8 (wf2 i))

theorem over : Rows.bucketMostRow.holds Try.pinned (OpenSpec.ofChange Rows.bucketMostSpec) :=
  OpenClaim.holds_of_wide 3 Try.f3 rfl rfl rfl rfl rfl rfl rfl ⟨rfl, rfl, rfl, rfl, rfl⟩ rfl rfl rfl rfl rfl (by kernel_rfl) Try.func3 (by kernel_rfl)
    (of_decide_eq_true (by kernel_rfl)) (by unfold Func.isWrapper; first | (rw [if_pos (by decide +kernel)]; kernel_rfl) | (rw [if_neg (by decide +kernel)]; exact ⟨rfl, rfl⟩))
    (fun os started H enc _ => lifted os started H enc)
theorem proved : Rows.BucketMostSaid := over
#print axioms proved
end Go.Proofs.Ytllkhelklgdjeaa.bucketMost
