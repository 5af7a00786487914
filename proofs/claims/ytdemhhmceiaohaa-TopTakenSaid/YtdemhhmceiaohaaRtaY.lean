/- Layer 16: what is wanted of a span, as the document says; sets that are small. -/
import Derived.Test.YtdemhhmceiaohaaRtaX
import Derived.Test.YtdemhhmceiaohaaFam
import Derived.BigRegion
import Derived.BigQuiet
import Derived.LoopTactic
namespace Go.Proofs.Ytdemhhmceiaohaa
open Go.RowKit
set_option linter.unusedVariables false
set_option maxRecDepth 100000
set_option maxHeartbeats 2000000
/-- The i-th task's answer time. -/
def timeO (n : Nat) (T : Nat → Wk) (m : Nat) (S : Nat → Ld) (i : Int) : Option Nat :=
  if (0 ≤ i ∧ i < (n : Int)) ∧ TOK n T ∧ LOK m S then lfp (T i.toNat).cost.toNat (T i.toNat).dead.toNat (whoL T S n m i.toNat) else none
def allO (n : Nat) (T : Nat → Wk) (m : Nat) (S : Nat → Ld) : Prop := ∀ i : Nat, i < n → (timeO n T m S i).isSome = true
instance (n : Nat) (T : Nat → Wk) (m : Nat) (S : Nat → Ld) : Decidable (allO n T m S) := by unfold allO; infer_instance
theorem ts_of {w : World} {A : Option Addr} {n : Nat} {V : Nat → Nat → Value} {T : Nat → Wk} (rd : RdM w A n 4 V) (h : ∀ j, j < n → V j 0 = .int .i64 (T j).prio ∧ V j 1 = .int .u64 (T j).cost ∧ V j 2 = .int .u64 (T j).per ∧ V j 3 = .int .u64 (T j).dead) : Ts w A n T := fun hn => by
  obtain ⟨b, off, e, hb, hc⟩ := rd hn
  refine ⟨b, off, e, hb, fun j hj i hi => ?_⟩
  obtain ⟨h0, h1, h2, h3⟩ := h j hj
  rw [hc j hj i hi]
  match i, hi with
  | 0, _ => rw [h0]; rfl
  | 1, _ => rw [h1]; rfl
  | 2, _ => rw [h2]; rfl
  | 3, _ => rw [h3]; rfl
theorem ls_of {w : World} {A : Option Addr} {n : Nat} {V : Nat → Nat → Value} {S : Nat → Ld} (rd : RdM w A n 2 V) (h : ∀ j, j < n → V j 0 = .int .i64 (S j).b ∧ V j 1 = .int .u64 (S j).per) : Ls w A n S := fun hn => by
  obtain ⟨b, off, e, hb, hc⟩ := rd hn
  refine ⟨b, off, e, hb, fun j hj i hi => ?_⟩
  obtain ⟨h0, h1⟩ := h j hj
  rw [hc j hj i hi]
  match i, hi with
  | 0, _ => rw [h0]; rfl
  | 1, _ => rw [h1]; rfl
section
variable {w0 w : World} {A B : Option Addr} {n m cap capB : Nat} {T : Nat → Wk} {S : Nat → Ld} {L : List Res}
theorem small_c (rd : Ts w A n T) (hn : n ≤ maxLen) (hm : m ≤ maxLen) :
    Calls Try.prog 14 #[.slice A n cap, .slice B m capB] w fun e w' => ∃ b, e = .returned (.bool b) ∧ (b = true → n ≤ 40 ∧ m ≤ 40) ∧ Below w.heap.size w w' := by
  unfold maxLen at hn hm
  go_enter Try.func14, Try.ntmps14
  go_wp2_with fail
  go_loopw [5] (fun i wr => ∃ k : Nat, k ≤ n ∧ i = .int .i64 k ∧ Below w.heap.size w wr) (fun i _ => n - (intOf i).toNat)
  case atStart => exact ⟨0, by omega, rfl, Below.refl _ _⟩
  case round =>
    obtain ⟨k, hk, rfl, hbl⟩ := hrel
    by_cases hlt : k < n
    · obtain ⟨ib, off, rfl, -, -, e2, -⟩ := rd.at_ hbl hlt
      generalize (T k).per = r at *
      clear rd
      by_cases q1 : 2000 < r
      · have z1 : decide (2000 < r) = true := decide_eq_true q1
        by_cases q2 : r ≤ 1073741824
        · have z2 : decide (r ≤ 1073741824) = true := decide_eq_true q2
          go_wp2_with fail
          go_ret
          exact ⟨false, rfl, (fun h => by cases h), hbl⟩
        · have z2 : decide (r ≤ 1073741824) = false := decide_eq_false q2
          go_wp2_with fail
          go_roundw
          case rel => exact ⟨k + 1, by omega, by go_num, hbl⟩
          case measure => simp [intOf]; omega
      · have z1 : decide (2000 < r) = false := decide_eq_false q1
        go_wp2_with fail
        go_roundw
        case rel => exact ⟨k + 1, by omega, by go_num, hbl⟩
        case measure => simp [intOf]; omega
    · obtain rfl : k = n := by omega
      by_cases h1 : k ≤ 40
      · have d1 : decide ((k : Int) ≤ 40) = true := decide_eq_true (by omega)
        have d1' : decide (k ≤ 40) = true := decide_eq_true h1
        by_cases h2 : m ≤ 40
        · have d2 : decide ((m : Int) ≤ 40) = true := decide_eq_true (by omega)
          have d2' : decide (m ≤ 40) = true := decide_eq_true h2
          go_wp2_with fail
          go_ret
          exact ⟨true, rfl, (fun _ => ⟨h1, h2⟩), hbl⟩
        · have d2 : decide ((m : Int) ≤ 40) = false := decide_eq_false (by omega)
          have d2' : decide (m ≤ 40) = false := decide_eq_false h2
          go_wp2_with fail
          go_ret
          exact ⟨false, rfl, (fun h => by cases h), hbl⟩
      · have d1 : decide ((k : Int) ≤ 40) = false := decide_eq_false (by omega)
        have d1' : decide (k ≤ 40) = false := decide_eq_false h1
        go_wp2_with fail
        go_ret
        exact ⟨false, rfl, (fun h => by cases h), hbl⟩
theorem ldl_one (S : Nat → Ld) (k s : Nat) : tkn (ldl S (k + 1)) s = tkn (ldl S k) s + upN s (S k).per.toNat * (S k).b.toNat := by
  simp only [ldl, tkn_app]; simp [tkn, ldt]
theorem load_c (rd : Ls w B m S) (hS : LOK m S) (s : Int) (h0 : 0 ≤ s) (h1 : s ≤ 1073741824) (r : Int) (hr : r = (tkn (ldl S m) s.toNat : Nat)) :
    Calls Try.prog 76 #[.slice B m capB, .int .u64 s] w fun e w' => e = .returned (.int .u64 r) ∧ Below w.heap.size w w' := by
  have HR := Lib.hid hr
  have RD := Lib.hid rd
  have HS := Lib.hid hS
  have m16 := hS.1
  clear rd hS hr
  go_enter Try.func76, Try.ntmps76
  go_wp2_with fail
  go_loopw [5, 6] (fun nn i wr => ∃ (k : Nat) (x : Int), k ≤ m ∧ i = .int .i64 k ∧ nn = .int .u64 x ∧ x = (tkn (ldl S k) s.toNat : Nat) ∧ Below w.heap.size w wr) (fun _ i _ => m - (intOf i).toNat)
  case atStart => exact ⟨0, 0, by omega, rfl, rfl, rfl, Below.refl _ _⟩
  case round =>
    obtain ⟨k, x, hk, rfl, rfl, hx, hbl⟩ := hrel
    by_cases hlt : k < m
    · obtain ⟨ib, off, rfl, e0, e1⟩ := RD.out.at_ hbl hlt
      obtain ⟨o1, o2, o3, o4⟩ := HS.out.2 k hlt
      have hbd := tkn_bound (ldl S k) (ldl_ok HS.out.2 k hk) s.toNat
      rw [ldl_len] at hbd
      have hbd2 := Nat.mul_le_mul_right (s.toNat + 1073741824) (show k ≤ 16 by omega)
      have HT := Lib.hid (ldl_one S k s.toNat)
      have hm1 := upN_mul_le (s := s.toNat) (p := (S k).per.toNat) (c := (S k).b.toNat) (by omega) (by omega)
      have hu := upN_cast (s := s.toNat) (p := (S k).per.toNat) (by omega)
      rw [Int.toNat_of_nonneg h0] at hu
      obtain ⟨st, hst⟩ : ∃ st, S k = st := ⟨_, rfl⟩
      rw [hst] at e0 e1 o1 o2 o3 o4 HT hm1 hu
      obtain ⟨c, p⟩ := st
      dsimp only at e0 e1 o1 o2 o3 o4 hm1 hu
      rw [Int.toNat_of_nonneg (show 0 ≤ p by omega)] at hu
      obtain ⟨u, hu2⟩ : ∃ u : Int, ((upN s.toNat p.toNat : Nat) : Int) = u := ⟨_, rfl⟩
      have hmc : ((upN s.toNat p.toNat * c.toNat : Nat) : Int) = u * c := by rw [Int.natCast_mul, hu2, Int.toNat_of_nonneg (by omega)]
      obtain ⟨y, hy⟩ : ∃ y : Int, u * c = y := ⟨_, rfl⟩
      rw [hy] at hmc
      rw [hu2] at hu
      have y0 : 0 ≤ y ∧ y ≤ 2147483648 := by omega
      have x0 : 0 ≤ x ∧ x ≤ 16 * 2147483648 := by omega
      have hwc : IntKind.u64.wrap c = c := IntWalk.u64_in _ ⟨by omega, by omega⟩
      have hw1 : IntKind.u64.wrap y = y := IntWalk.u64_in _ ⟨by omega, by omega⟩
      have hw2 : IntKind.u64.wrap (x + y) = x + y := IntWalk.u64_in _ ⟨by omega, by omega⟩
      have HY := Lib.hid (show x + y = (tkn (ldl S (k + 1)) s.toNat : Nat) by rw [HT.out]; dsimp only; omega)
      have UP := Lib.hid (fun W => rup_any s p W h0 (by omega) (by omega))
      rw [hu] at UP
      have k0 : (0 : Int) ≤ (k : Int) := by omega
      have k1 : (k : Int) < (m : Int) := by omega
      have BL := Lib.hid hbl
      clear hx hbl hbd hbd2 hm1 hu hu2 hmc hst o1 o2 o3 o4
      go_wp2_with fail
      go_quiet ((go_at_call 77; exact q_left (UP.out _)))
      go_wp2_with fail
      go_roundw
      case rel => exact ⟨k + 1, x + y, by omega, by go_num, rfl, HY.out, below_drewN BL.out _⟩
      case measure => simp [intOf]; omega
    · obtain rfl : k = m := by omega
      obtain rfl : x = r := by rw [HR.out, hx]
      clear hx
      go_wp2_with fail
      go_ret
      exact ⟨rfl, hbl⟩
theorem wants_c (rd : Ts w A n T) (rdS : Ls w B m S) (hT : TOK n T) (hS : LOK m S) (i : Int) (i0 : 0 ≤ i) (i1 : i < (n : Int)) (s : Int) (h0 : 0 ≤ s) (h1 : s ≤ 1073741824) (r : Int) (hr : r = (Fx (T i.toNat).cost.toNat (whoL T S n m i.toNat) s.toNat : Nat)) :
    Calls Try.prog 64 #[.slice A n cap, .slice B m capB, .int .i64 i, .int .u64 s] w fun e w' => e = .returned (.int .u64 r) ∧ Below w.heap.size w w' := by
  have HR := Lib.hid hr
  have RD := Lib.hid rd
  have HT := Lib.hid hT
  have HS := Lib.hid hS
  have n32 := hT.1
  obtain ⟨y0, hy0⟩ : ∃ y : Int, ((tkn (ldl S m) s.toNat : Nat) : Int) = y := ⟨_, rfl⟩
  have hb0 := tkn_bound (ldl S m) (ldl_ok hS.2 m (Nat.le_refl _)) s.toNat
  rw [ldl_len] at hb0
  have hb1 := Nat.mul_le_mul_right (s.toNat + 1073741824) hS.1
  have yb : 0 ≤ y0 ∧ y0 ≤ 16 * 2147483648 := by omega
  have LD := Lib.hid (fun W (hW : Below w.heap.size w W) => load_c (capB := capB) (rdS.below hW) hS s h0 h1 y0 hy0.symm)
  obtain ⟨-, o1, o2, o3, o4⟩ := hT.2 i.toNat (by omega)
  have CE := Lib.hid (fun W (hW : Below w.heap.size w W) => rd.at_ hW (k := i.toNat) (by omega))
  obtain ⟨ib, off, rfl, f0, f1, -, -⟩ := CE.out w (Below.refl _ _)
  have CF := Lib.hid (fun W (hW : Below w.heap.size w W) => (show W.cell? ⟨ib, off + i.toNat * 4, none⟩ = some (.int .i64 (T i.toNat).prio) ∧ W.cell? ⟨ib, off + i.toNat * 4 + 1, none⟩ = some (.int .u64 (T i.toNat).cost) by
    obtain ⟨ib', off', ha, g0, g1, -, -⟩ := CE.out W hW
    injection ha with ha
    injection ha with ha1 ha2
    subst ha1 ha2
    exact ⟨g0, g1⟩))
  obtain ⟨c, hc⟩ : ∃ c, (T i.toNat).cost = c := ⟨_, rfl⟩
  obtain ⟨pr, hpr⟩ : ∃ c, (T i.toNat).prio = c := ⟨_, rfl⟩
  rw [hc] at o1 o2 CF HR f1
  rw [hpr] at CF f0
  have HPR := Lib.hid hpr
  have HY0 := Lib.hid hy0
  haveI : Nonempty (Within (fun W => Below w.heap.size w W)) := ⟨⟨_, Below.refl _ _⟩⟩
  have v1 : ∀ x : Within (fun W => Below w.heap.size w W), x.w.cell? ⟨ib, off + i.toNat * 4 + 1, none⟩ = some (.int .u64 c) := fun x => (CF.out x.w x.h).2
  have hw0 : IntKind.u64.wrap (c + y0) = c + y0 := IntWalk.u64_in _ ⟨by omega, by omega⟩
  have cb : 1 ≤ c ∧ c ≤ 1073741824 := by omega
  clear rd rdS hT hS hr hy0 hb0 hb1 o1 o2 o3 o4 hc hpr f0 f1
  go_enter Try.func64, Try.ntmps64
  go_wp2_with fail
  refine wp_region_in (fun W => Below w.heap.size w W) (by kernel_rfl) (by kernel_rfl) (Below.refl _ _).drew ?_
  repeat (go_big_quiet_step ((go_at_call 76; exact in_call (p := (fun W => Below w.heap.size w W)) ((LD.out _ (Within.h (p := (fun W => Below w.heap.size w W)) _)).mono fun e w' h => ⟨h.1, below_then (Within.h (p := (fun W => Below w.heap.size w W)) _) h.2⟩))))
  refine wpQuiet_nil ?_
  rintro _ ⟨⟨wq, sq⟩, rfl⟩
  clear v1
  go_wp2_with fail
  go_loopw [9, 10] (fun nn j wr => ∃ (k : Nat) (x : Int), k ≤ n ∧ j = .int .i64 k ∧ nn = .int .u64 x ∧ x = c + y0 + (tkn (aht T i.toNat k) s.toNat : Nat) ∧ Below w.heap.size w wr) (fun _ j _ => n - (intOf j).toNat)
  case atStart => exact ⟨0, c + y0, by omega, rfl, rfl, by simp [aht, tkn], sq⟩
  case round =>
    clear sq
    obtain ⟨k, x, hk, rfl, rfl, hx, hbl⟩ := hrel
    have HX := Lib.hid hx
    have BL := Lib.hid hbl
    by_cases hlt : k < n
    · obtain ⟨ib', off', ha', e0, e1, e2, -⟩ := RD.out.at_ hbl hlt
      injection ha' with ha'
      injection ha' with ha1 ha2
      subst ha1 ha2
      obtain ⟨-, o1, o2, o3, o4⟩ := HT.out.2 k hlt
      obtain ⟨f0, -⟩ := CF.out wr hbl
      have hbd := tkn_bound (aht T i.toNat k) (aht_ok HT.out.2 k hk) s.toNat
      have hlen := aht_len T i.toNat k
      have hbd2 := Nat.mul_le_mul_right (s.toNat + 1073741824) (show (aht T i.toNat k).length ≤ 32 by omega)
      have x0 : 0 ≤ x ∧ x ≤ 64 * 2147483648 := by omega
      have HN := Lib.hid (show aht T i.toNat (k + 1) = aht T i.toNat k ++ if k ≠ i.toNat ∧ (T k).prio ≤ (T i.toNat).prio then [wkt (T k)] else [] from rfl)
      rw [HPR.out] at HN
      have hm1 := upN_mul_le (s := s.toNat) (p := (T k).per.toNat) (c := (T k).cost.toNat) (by omega) (by omega)
      have hu := upN_cast (s := s.toNat) (p := (T k).per.toNat) (by omega)
      rw [Int.toNat_of_nonneg h0] at hu
      obtain ⟨z, hz⟩ : ∃ z, T k = z := ⟨_, rfl⟩
      rw [hz] at e0 e1 e2 o1 o2 o3 o4 HN hm1 hu
      obtain ⟨p, cc, rr, dd⟩ := z
      dsimp only at e0 e1 e2 o1 o2 o3 o4 HN hm1 hu
      rw [Int.toNat_of_nonneg (show 0 ≤ rr by omega)] at hu
      obtain ⟨u, hu2⟩ : ∃ u : Int, ((upN s.toNat rr.toNat : Nat) : Int) = u := ⟨_, rfl⟩
      have hmc : ((upN s.toNat rr.toNat * cc.toNat : Nat) : Int) = u * cc := by rw [Int.natCast_mul, hu2, Int.toNat_of_nonneg (by omega)]
      obtain ⟨y, hy⟩ : ∃ y : Int, u * cc = y := ⟨_, rfl⟩
      rw [hy] at hmc
      rw [hu2] at hu
      have yb2 : 0 ≤ y ∧ y ≤ 2147483648 := by omega
      have hw1 : IntKind.u64.wrap y = y := IntWalk.u64_in _ ⟨by omega, by omega⟩
      have hw2 : IntKind.u64.wrap (x + y) = x + y := IntWalk.u64_in _ ⟨by omega, by omega⟩
      have UP := Lib.hid (fun W => rup_any s rr W h0 (by omega) (by omega))
      rw [hu] at UP
      have HM := Lib.hid hmc
      have k0 : (0 : Int) ≤ (k : Int) := by omega
      have k1 : (k : Int) < (n : Int) := by omega
      have KN := Lib.hid (show ((k : Int) = i ↔ k = i.toNat) by omega)
      clear hx hbl hbd hbd2 hm1 hu hu2 hmc hz o1 o2 o3 o4 hlen
      by_cases hki : (k : Int) = i
      · have z1 : ((k : Int) != i) = false := by simp [bne, hki]
        rw [if_neg (fun h => h.1 (KN.out.1 hki)), List.append_nil] at HN
        clear hki
        go_wp2_with fail
        go_quiet (fail)
        go_wp2_with fail
        go_roundw
        case rel => exact ⟨k + 1, x, by omega, by go_num, rfl, by rw [HN.out, HX.out], below_drewN BL.out _⟩
        case measure => simp [intOf]; omega
      · have z1 : ((k : Int) != i) = true := by simp [bne, hki]
        have z3 : ((k : Int) == i) = false := by simp [hki]
        by_cases hpp : p ≤ pr
        · have z2 : decide (p ≤ pr) = true := decide_eq_true hpp
          rw [if_pos ⟨fun h => hki (KN.out.2 h), hpp⟩] at HN
          have HY := Lib.hid (show x + y = c + y0 + (tkn (aht T i.toNat (k + 1)) s.toNat : Nat) by
            rw [HN.out, tkn_app, HX.out]
            have e : tkn [wkt ⟨p, cc, rr, dd⟩] s.toNat = upN s.toNat rr.toNat * cc.toNat := by simp [tkn, wkt]
            rw [e]
            have := HM.out
            omega)
          clear hki
          go_wp2_with fail
          go_quiet (fail)
          go_wp2_with fail
          go_quiet ((go_at_call 77; first | exact q_left (UP.out _) | exact q_add (UP.out _)))
          go_wp2_with fail
          go_roundw
          case rel => exact ⟨k + 1, x + y, by omega, by go_num, rfl, HY.out, by first | exact below_drewN BL.out _ | exact below_drewN (below_drewN BL.out _) _⟩
          case measure => simp [intOf]; omega
        · have z2 : decide (p ≤ pr) = false := decide_eq_false hpp
          rw [if_neg (fun h => hpp h.2), List.append_nil] at HN
          clear hki
          go_wp2_with fail
          go_quiet (fail)
          go_wp2_with fail
          go_roundw
          case rel => exact ⟨k + 1, x, by omega, by go_num, rfl, by rw [HN.out, HX.out], below_drewN BL.out _⟩
          case measure => simp [intOf]; omega
    · obtain rfl : k = n := by omega
      obtain rfl : x = r := by
        rw [HR.out, HX.out]
        unfold Fx whoL
        rw [tkn_app]
        have := HY0.out
        omega
      clear hx
      go_wp2_with fail
      go_ret
      exact ⟨rfl, hbl⟩
end
end Go.Proofs.Ytdemhhmceiaohaa
