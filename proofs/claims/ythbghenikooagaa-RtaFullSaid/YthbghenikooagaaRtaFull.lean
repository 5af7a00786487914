/-
  For all tasks RtaFull answers true, and changes nothing: if the tasks' shares come to more than all time somebody has no answer time. No condition.
-/
import Derived.Test.YthbghenikooagaaRows
import Derived.Test.YthbghenikooagaaFr
import Derived.Test.YthbghenikooagaaRtaJ
import Derived.Test.YthbghenikooagaaOpen
namespace Go.Proofs.Ythbghenikooagaa.rtaFull
open Go.ChangeShapes Go.WideShapes Go.ChangeAt Go.RowKit
set_option linter.unusedVariables false
theorem own : ownKnob Try.prog.godebug = none := by kernel_rfl
theorem laid : laidOutB Try.prog = true := by kernel_rfl
set_option maxRecDepth 100000
set_option maxHeartbeats 2000000
def prodP (T : Nat → Wk) : Nat → Nat
  | 0 => 1
  | k + 1 => prodP T k * (T k).per.toNat
def sumU (T : Nat → Wk) (all : Nat) : Nat → Nat
  | 0 => 0
  | k + 1 => sumU T all k + all / (T k).per.toNat * (T k).cost.toNat
theorem prodP_le (T : Nat → Wk) (n : Nat) (h : ∀ j, j < n → (T j).per ≤ 300) : ∀ k, k ≤ n → prodP T k ≤ 300 ^ k
  | 0, _ => Nat.le_refl _
  | k + 1, hk => by
    have h1 := prodP_le T n h k (by omega)
    have h2 := h k (by omega)
    exact Nat.mul_le_mul h1 (by omega)
theorem max_prio (T : Nat → Wk) : ∀ n, 0 < n → ∃ i, i < n ∧ ∀ j, j < n → (T j).prio ≤ (T i).prio
  | 0, h => absurd h (by omega)
  | 1, _ => ⟨0, by omega, fun j hj => by obtain rfl : j = 0 := by omega
                                         exact Int.le_refl _⟩
  | n + 2, _ => by
    obtain ⟨i, hi, h⟩ := max_prio T (n + 1) (by omega)
    by_cases hc : (T (n + 1)).prio ≤ (T i).prio
    · exact ⟨i, by omega, fun j hj => by
        by_cases e : j = n + 1
        · rw [e]; exact hc
        · exact h j (by omega)⟩
    · exact ⟨n + 1, by omega, fun j hj => by
        by_cases e : j = n + 1
        · rw [e]; exact Int.le_refl _
        · have := h j (by omega); omega⟩
theorem share_le {R P C all : Nat} (hP : 1 ≤ P) : R * (all / P * C) ≤ upN R P * C * all := by
  have h1 := upN_enough (s := R) hP
  have h2 := Nat.mul_le_mul_right (all / P * C) h1
  have h3 := Nat.mul_div_le all P
  have h4 := Nat.mul_le_mul_left (upN R P * C) h3
  have e : upN R P * P * (all / P * C) = upN R P * C * (P * (all / P)) := by
    rw [Nat.mul_assoc, Nat.mul_assoc, Nat.mul_comm C, ← Nat.mul_assoc P]
  omega
theorem share_own {R P C all : Nat} (h : R ≤ P) : R * (all / P * C) ≤ C * all := by
  have h2 := Nat.mul_le_mul_right (all / P) h
  have h3 := Nat.mul_div_le all P
  have h4 := Nat.mul_le_mul_right C (Nat.le_trans h2 h3)
  rw [Nat.mul_assoc] at h4
  rw [Nat.mul_comm C all]
  exact h4
theorem sum_le {T : Nat → Wk} {n i R all : Nat} (hok : ∀ j, j < n → (T j).ok) (hmax : ∀ j, j < n → (T j).prio ≤ (T i).prio) (hi : i < n) (hR : R ≤ (T i).per.toNat) :
    ∀ k, k ≤ n → R * sumU T all k ≤ (tkn (aht T i k) R + if i < k then (T i).cost.toNat else 0) * all
  | 0, _ => by simp [sumU]
  | k + 1, hk => by
    have ih := sum_le hok hmax hi hR k (by omega) (all := all)
    obtain ⟨-, o1, o2, o3, o4⟩ := hok k (by omega)
    simp only [sumU, Nat.mul_add]
    by_cases e : k = i
    · subst e
      have h1 := share_own (C := (T k).cost.toNat) (all := all) hR
      have e2 : aht T k (k + 1) = aht T k k := by simp [aht]
      rw [e2, if_pos (by omega), Nat.add_mul]
      rw [if_neg (by omega), Nat.add_zero] at ih
      omega
    · have h1 := share_le (R := R) (P := (T k).per.toNat) (C := (T k).cost.toNat) (all := all) (by omega)
      have e2 : aht T i (k + 1) = aht T i k ++ [wkt (T k)] := by
        have := hmax k (by omega)
        simp [aht, e, this]
      rw [e2, tkn_app]
      have e3 : tkn [wkt (T k)] R = upN R (T k).per.toNat * (T k).cost.toNat := by simp [tkn, wkt]
      rw [e3]
      have e4 : (if i < k + 1 then (T i).cost.toNat else 0) = if i < k then (T i).cost.toNat else 0 := by
        by_cases h : i < k
        · rw [if_pos h, if_pos (by omega)]
        · rw [if_neg h, if_neg (by omega)]
      rw [e4]
      rw [show tkn (aht T i k) R + upN R (T k).per.toNat * (T k).cost.toNat + (if i < k then (T i).cost.toNat else 0) = (tkn (aht T i k) R + if i < k then (T i).cost.toNat else 0) + upN R (T k).per.toNat * (T k).cost.toNat by omega, Nat.add_mul]
      omega
/-- If all have an answer time the shares come to no more than all time. -/
theorem full {T : Nat → Wk} {n all : Nat} (hT : TOK n T) (hn : 0 < n) (h : allO n T 0 S0) : sumU T all n ≤ all := by
  obtain ⟨i, hi, hmax⟩ := max_prio T n hn
  have h1 := h i hi
  unfold timeO at h1
  rw [if_pos ⟨⟨by omega, by omega⟩, hT, sok0 S0⟩] at h1
  rw [Int.toNat_natCast] at h1
  obtain ⟨R, hR⟩ := Option.isSome_iff_exists.1 h1
  obtain ⟨r1, r2, r3⟩ := lfp_some.1 hR
  obtain ⟨-, o1, o2, o3, o4⟩ := hT.2 i hi
  have hw : whoL T S0 n 0 i = aht T i n := by simp [whoL, ldl]
  rw [hw] at r2
  have hs := sum_le hT.2 hmax hi (R := R) (all := all) (by omega) n (Nat.le_refl _)
  rw [if_pos hi] at hs
  unfold Fx at r2
  rw [Nat.add_comm, r2] at hs
  exact Nat.le_of_mul_le_mul_left hs (by omega)
theorem walk (A : Option Addr) (n cap : Nat) (T : Nat → Wk) (w : World) (hn : n ≤ maxLen) (rd : Ts w A n T) :
    Calls Try.prog 6 #[.slice A n cap] w fun e w' => e = .returned (.bool true) ∧ Below w.heap.size w w' := by
  have RD := Lib.hid rd
  by_cases h6 : 6 < n
  · unfold maxLen at hn
    have d1 : decide (6 < (n : Int)) = true := decide_eq_true (by omega)
    have d1' : decide (6 < n) = true := decide_eq_true h6
    go_enter Try.func6, Try.ntmps6
    go_wp2_with fail
    refine (awake_any w).mono ?_
    rintro e w1 ⟨rfl, hb1⟩
    go_wp2_with fail
    go_ret
    exact ⟨rfl, hb1⟩
  have d1 : decide (6 < (n : Int)) = false := decide_eq_false (by omega)
  have d1' : decide (6 < n) = false := decide_eq_false h6
  have TM := Lib.hid (fun W (hW : Below w.heap.size w W) => rtmay_c (cap := cap) (rd.below hW) hn _ rfl)
  have AL := Lib.hid (fun W (hW : Below w.heap.size w W) => all_c (cap := cap) (capB := 0) (rd.below hW) (ls_nil W S0) (fun j hj => absurd hj (by omega)) hn (by unfold maxLen; omega) _ rfl)
  clear rd hn
  go_enter Try.func6, Try.ntmps6
  go_wp2_with fail
  refine (awake_any w).mono ?_
  rintro e w1 ⟨rfl, hb1⟩
  go_wp2_with fail
  refine (TM.out w1 hb1).mono ?_
  rintro e w2 ⟨rfl, hb2⟩
  have B2 := Lib.hid (below_then hb1 hb2)
  clear hb1 hb2
  by_cases hT : TOK n T
  · have e1 : decide (TOK n T) = true := decide_eq_true hT
    rw [e1]
    have HT := Lib.hid hT
    clear e1 hT
    go_wp2_with fail
    go_loopw [3, 4] (fun al i wr => ∃ (k : Nat) (x : Int), k ≤ n ∧ i = .int .i64 k ∧ al = .int .u64 x ∧ x = (prodP T k : Nat) ∧ (∀ j, j < k → (T j).per ≤ 300) ∧ Below w.heap.size w wr) (fun _ i _ => n - (intOf i).toNat)
    case atStart => exact ⟨0, 1, by omega, rfl, rfl, rfl, (fun j hj => absurd hj (by omega)), B2.out⟩
    case round =>
      obtain ⟨k, x, hk, rfl, rfl, hx, h300, hbl⟩ := hrel
      by_cases hlt : k < n
      · obtain ⟨ib, off, rfl, -, -, e2, -⟩ := RD.out.at_ hbl hlt
        obtain ⟨-, o1, o2, o3, o4⟩ := HT.out.2 k hlt
        have HX := Lib.hid hx
        have H3 := Lib.hid h300
        have HP := Lib.hid (show prodP T (k + 1) = prodP T k * (T k).per.toNat from rfl)
        have hpk := prodP_le T k h300 k (Nat.le_refl _)
        have hpk2 : 300 ^ k ≤ 300 ^ 5 := Nat.pow_le_pow_right (by omega) (by omega)
        obtain ⟨r, hr⟩ : ∃ r, (T k).per = r := ⟨_, rfl⟩
        rw [hr] at e2 o3 o4 HP
        have HR2 := Lib.hid hr
        by_cases q : 300 < r
        · have z1 : decide (300 < r) = true := decide_eq_true q
          clear hx h300 hpk hpk2 o1 o2 o3 o4 hr
          go_wp2_with fail
          go_ret
          exact ⟨rfl, hbl⟩
        · have z1 : decide (300 < r) = false := decide_eq_false q
          have hxb : 0 ≤ x ∧ x ≤ 2430000000000 := by
            have : (300 : Nat) ^ 5 = 2430000000000 := by decide
            omega
          obtain ⟨y, hy⟩ : ∃ y, x * r = y := ⟨_, rfl⟩
          have y0 : 0 ≤ y := by rw [← hy]; exact Int.mul_nonneg hxb.1 (by omega)
          have y1 : y ≤ 2430000000000 * 300 := by rw [← hy]; exact Int.le_trans (Int.mul_le_mul_of_nonneg_right hxb.2 (by omega)) (Int.mul_le_mul_of_nonneg_left (by omega) (by decide))
          have hw : IntKind.u64.wrap y = y := IntWalk.u64_in _ ⟨by omega, by omega⟩
          have HY := Lib.hid (show y = (prodP T (k + 1) : Nat) by rw [HP.out, Int.natCast_mul, ← HX.out, Int.toNat_of_nonneg (by omega), hy])
          clear hx h300 hpk hpk2 o1 o2 o3 o4 hr hxb
          go_wp2_with fail
          go_roundw
          case rel =>
            refine ⟨k + 1, y, by omega, by go_num, rfl, HY.out, fun j hj => ?_, hbl⟩
            by_cases e : j = k
            · rw [e, HR2.out]; omega
            · exact H3.out j (by omega)
          case measure => simp [intOf]; omega
      · obtain rfl : k = n := by omega
        have HP := Lib.hid (prodP_le T k h300 k (Nat.le_refl _))
        obtain ⟨all, hall⟩ : ∃ all, prodP T k = all := ⟨_, rfl⟩
        rw [hall] at HP hx
        have hpk2 : 300 ^ k ≤ 300 ^ 6 := Nat.pow_le_pow_right (by omega) (by omega)
        have hab : all ≤ 729000000000000 := by
          have : (300 : Nat) ^ 6 = 729000000000000 := by decide
          have := HP.out
          omega
        have HX := Lib.hid hx
        have xb : 0 ≤ x ∧ x ≤ 729000000000000 := by omega
        clear hpk2 hall h300 hx hab
        go_wp2_with fail
        go_loopw [5, 6] (fun sm i wr => ∃ (j : Nat) (s : Int), j ≤ k ∧ i = .int .i64 j ∧ sm = .int .u64 s ∧ s = (sumU T all j : Nat) ∧ s ≤ 729000000000000 * (j : Int) ∧ Below w.heap.size w wr) (fun _ i _ => k - (intOf i).toNat)
        case atStart => exact ⟨0, 0, by omega, rfl, rfl, rfl, by omega, hbl⟩
        case round =>
          clear hbl
          obtain ⟨j, s, hj, rfl, rfl, hs, hsb, hbl⟩ := hrel
          have s0 : 0 ≤ s := by omega
          have HS := Lib.hid hs
          by_cases hlt2 : j < k
          · obtain ⟨ib, off, rfl, -, e1, e2, -⟩ := RD.out.at_ hbl hlt2
            obtain ⟨-, o1, o2, o3, o4⟩ := HT.out.2 j hlt2
            have HU := Lib.hid (show sumU T all (j + 1) = sumU T all j + all / (T j).per.toNat * (T j).cost.toNat from rfl)
            have hcp : (T j).cost ≤ (T j).per := by omega
            generalize (T j).per = r at *
            generalize (T j).cost = c at *
            obtain ⟨q, hq⟩ : ∃ q, x / r = q := ⟨_, rfl⟩
            have q0 : 0 ≤ q := by rw [← hq]; exact Int.ediv_nonneg xb.1 (by omega)
            have qr : q * r ≤ x := by rw [← hq]; exact Int.ediv_mul_le _ (by omega)
            obtain ⟨y, hy⟩ : ∃ y, q * c = y := ⟨_, rfl⟩
            have y0 : 0 ≤ y := by rw [← hy]; exact Int.mul_nonneg q0 (by omega)
            have y1 : y ≤ x := by
              rw [← hy]; exact Int.le_trans (Int.mul_le_mul_of_nonneg_left hcp q0) qr
            have hw1 : IntKind.u64.wrap y = y := IntWalk.u64_in _ ⟨by omega, by omega⟩
            have hw2 : IntKind.u64.wrap (s + y) = s + y := IntWalk.u64_in _ ⟨by omega, by omega⟩
            have hr1 : 1 ≤ r := by omega
            have hr0 : (r == 0) = false := beq_eq_false_iff_ne.2 (by omega)
            have HY := Lib.hid (show s + y = (sumU T all (j + 1) : Nat) by
              rw [HU.out, Int.natCast_add, Int.natCast_mul, Int.natCast_ediv, ← HS.out, ← HX.out, Int.toNat_of_nonneg (by omega), Int.toNat_of_nonneg (by omega), hq, hy])
            have k0 : (0 : Int) ≤ (j : Int) := by omega
            have k1 : (j : Int) < (k : Int) := by omega
            clear hs o1 o2 o3 o4 hcp qr
            go_wp2_with fail
            go_quiet (fail)
            go_wp2_with fail
            go_roundw
            case rel => exact ⟨j + 1, s + y, by omega, by go_num, rfl, HY.out, by omega, below_drewN hbl _⟩
            case measure => simp [intOf]; omega
          · obtain rfl : j = k := by omega
            by_cases hsx : s ≤ x
            · have z1 : decide (s ≤ x) = true := decide_eq_true hsx
              clear hs
              go_wp2_with fail
              go_ret
              exact ⟨rfl, hbl⟩
            · have z1 : decide (s ≤ x) = false := decide_eq_false hsx
              have hno : ¬ allO j T 0 S0 := fun h => by
                by_cases h0 : j = 0
                · subst h0
                  have : s = 0 := HS.out
                  omega
                · have h1 := full (all := all) HT.out (by omega) h
                  have h2 := HS.out
                  have h3 := HX.out
                  omega
              have AN := AL.out wr hbl
              rw [decide_eq_false hno] at AN
              have A2 := Lib.hid AN
              clear hs AN
              go_wp2_with fail
              refine A2.out.mono ?_
              rintro e w5 ⟨rfl, hb5⟩
              go_wp2_with fail
              go_ret
              exact ⟨rfl, below_then hbl hb5⟩
  · have e1 : decide (TOK n T) = false := decide_eq_false hT
    rw [e1]
    clear e1 hT
    go_wp2_with fail
    go_ret
    exact ⟨rfl, B2.out⟩

set_option maxRecDepth 100000 in
theorem lifted (os : Os) (started : os.Started) (H : Type) (enc : TypeId × Value → H) :
    ReturnsInHanded {} Try.checked os 6 .any (Rows.rtaFullSpec.pre6 enc Try.prog Try.f6 Rows.rtaFullRow.domain false) (Rows.rtaFullSpec.post enc Try.prog Try.f6 false true false false) := by
  refine law_lifted (C := Try.checked) (tb := 4) own started (by kernel_rfl) Try.func6
    (ChangeSpec.witness6 (enc := enc) (C := Try.checked) false ⟨#[], #[.slice none 0 0], []⟩ 8 (by kernel_rfl) (by kernel_rfl) (by kernel_rfl) (by kernel_rfl)) laid (by kernel_rfl) (by kernel_rfl) Try.underlying4 rfl ?_
  intro W base args ds ps hval0 hA0 hlt
  have hval : ∀ (j : Nat) t v, Try.f6.params[j]? = some t → args[j]? = some v → Value.okWide Try.prog W .any base t v := hval0
  have hA : DataW.TrodAll enc Try.prog W 0 (fun _ => true) true Try.f6.params.toList args.toList ds ps := hA0
  clear hA0 hval0
  rw [Try.params6] at hA hval
  obtain ⟨v0, vs0, d0, ds0, p0, q0, hargs, rfl, rfl, h0, r0⟩ := trodAll_cons hA
  obtain ⟨rfl, rfl, rfl⟩ := trodAll_nil r0
  obtain rfl : args = #[v0] := by cases args; simp_all
  obtain ⟨A0, n0, cap0, V0, rfl, le0, mx0, rd0, lf0⟩ := open_slice_spots (m := 4) (d := 20) (l := [(0, 3), (1, 24), (2, 24), (3, 24)]) Try.underlying22 (by kernel_rfl) (by decide) (by kernel_rfl) (hval 0 22 v0 rfl rfl) h0
  have f0_0 := fun j hj => leaf_int Try.underlying3 (lf0 0 3 (by simp) j hj)
  have f0_1 := fun j hj => leaf_int Try.underlying24 (lf0 1 24 (by simp) j hj)
  have f0_2 := fun j hj => leaf_int Try.underlying24 (lf0 2 24 (by simp) j hj)
  have f0_3 := fun j hj => leaf_int Try.underlying24 (lf0 3 24 (by simp) j hj)
  refine ⟨⟨rfl, rfl, rfl⟩, ?_⟩
  obtain ⟨T, hT⟩ := Go.Deep.choose_lt (n := n0) (p := fun j (d : Wk) => V0 j 0 = .int .i64 d.prio ∧ V0 j 1 = .int .u64 d.cost ∧ V0 j 2 = .int .u64 d.per ∧ V0 j 3 = .int .u64 d.dead) (fun j hj => by
    obtain ⟨x0, h0, -⟩ := f0_0 j hj
    obtain ⟨x1, h1, -⟩ := f0_1 j hj
    obtain ⟨x2, h2, -⟩ := f0_2 j hj
    obtain ⟨x3, h3, -⟩ := f0_3 j hj
    exact ⟨⟨x0, x1, x2, x3⟩, h0, h1, h2, h3⟩)
  exact walk A0 n0 cap0 T W (by omega) (ts_of rd0 hT)

theorem over : Rows.rtaFullRow.holds Try.pinned (OpenSpec.ofChange Rows.rtaFullSpec) :=
  OpenClaim.holds_of_wide 6 Try.f6 rfl rfl rfl rfl rfl rfl rfl ⟨rfl, rfl, rfl, rfl, rfl⟩ rfl rfl rfl rfl rfl (by kernel_rfl) Try.func6 (by kernel_rfl)
    (of_decide_eq_true (by kernel_rfl)) (by unfold Func.isWrapper; first | (rw [if_pos (by decide +kernel)]; kernel_rfl) | (rw [if_neg (by decide +kernel)]; exact ⟨rfl, rfl⟩))
    (fun os started H enc _ => lifted os started H enc)
theorem proved : Rows.RtaFullSaid := over
#print axioms proved
end Go.Proofs.Ythbghenikooagaa.rtaFull
