/- Layer 16: answer times, by the program. -/
import Derived.Test.YthbghenikooagaaRtaD
import Derived.Test.YthbghenikooagaaRtaU
namespace Go.Proofs.Ythbghenikooagaa
open Go.RowKit
set_option linter.unusedVariables false
set_option maxRecDepth 100000
set_option maxHeartbeats 2000000
theorem M64_eq : (M64 : Int) = 18446744073709551616 := rfl
theorem prt_take {l : List Tk} {k : Nat} {a : Tk} (h : l[k]? = some a) : prt (l.take (k + 1)) = prt (l.take k) + a.1 * M64 / a.2 := by
  rw [List.take_add_one, h, prt_app]; simp [prt]
theorem prt_le (l : List Tk) (k : Nat) : prt (l.take k) ≤ prt l := by
  have h := prt_app (l.take k) (l.drop k)
  rw [List.take_append_drop] at h
  omega
theorem add64_c (x y s c : Int) (x0 : 0 ≤ x) (y0 : 0 ≤ y) (hs : (x + y) % 18446744073709551616 = s) (hc : (x + y) / 18446744073709551616 = c) (w : World) :
    (callFunc 34 #[.int .u64 x, .int .u64 y, .int .u64 0]).run Try.prog w = .ok (.value (.tuple #[.int .u64 s, .int .u64 c])) w := by
  rw [run_callFunc_extern Try.func34 (by kernel_rfl) (by kernel_rfl) (by kernel_rfl) (e := add64Entry) (by kernel_rfl), run_add64 x y 0 x0 y0 (by omega) (by omega)]
  rw [Int.add_zero, hs, hc]
  rfl
section
variable {w0 w : World} {A B : Option Addr} {n m cap capB : Nat} {T : Nat → Wk} {S : Nat → Ld}
theorem below_c {l : List Tk} (rd : TkRd w A l) (ok : TkOK l) (hl : l.length ≤ 64) (c : Int) (c1 : 1 ≤ c) (c2 : c ≤ 1073741824) :
    Calls Try.prog 31 #[.int .u64 c, .slice A l.length cap] w fun e w' => ∃ (s : Int) (b : Bool), e = .returned (.tuple #[.int .u64 s, .bool b]) ∧ 0 ≤ s ∧ s ≤ 18446744073709551615 ∧
      (b = true → s.toNat ≤ Fx c.toNat l s.toNat ∧ ∀ t, Fx c.toNat l t = t → s.toNat ≤ t) ∧ (b = false → ∀ t, t < M64 → Fx c.toNat l t ≠ t) ∧ Below w.heap.size w w' := by
  have RD := Lib.hid rd
  have OK := Lib.hid ok
  clear rd ok
  go_enter Try.func31, Try.ntmps31
  go_wp2_with fail
  go_loopw [6, 18] (fun pp i wr => ∃ (k : Nat) (x : Int), k ≤ l.length ∧ i = .int .i64 k ∧ pp = .int .u64 x ∧ x = (prt (l.take k) : Nat) ∧ x < 18446744073709551616 ∧ Below w.heap.size w wr) (fun _ i _ => l.length - (intOf i).toNat)
  case atStart => exact ⟨0, 0, by omega, rfl, rfl, rfl, by omega, Below.refl _ _⟩
  case round =>
    obtain ⟨k, x, hk, rfl, rfl, hx, hx2, hbl⟩ := hrel
    by_cases hlt : k < l.length
    · obtain ⟨a, ha⟩ : ∃ a, l[k]? = some a := ⟨_, List.getElem?_eq_getElem hlt⟩
      obtain ⟨ib, off, rfl, e0, e1⟩ := RD.out.at_ hbl ha
      have hma : a ∈ l := List.mem_of_getElem? ha
      have oa := OK.out a hma
      have HMA := Lib.hid hma
      have HT := Lib.hid (prt_take ha)
      have hqc : ((a.1 * M64 / a.2 : Nat) : Int) = (a.1 : Int) * 18446744073709551616 / (a.2 : Int) := by
        rw [Int.natCast_ediv, Int.natCast_mul, M64_eq]
      have BL := Lib.hid hbl
      have BA := Lib.hid (hbl.alloc hbl.size (.cells #[.int .u64 (a.1 : Nat), .int .u64 (a.2 : Nat)] 54))
      have HX := Lib.hid hx
      have x0 : 0 ≤ x := by omega
      by_cases hge : a.2 ≤ a.1
      · have NO := Lib.hid (fun t => no_room1 (c := c.toNat) OK.out hma (by omega) hge t)
        obtain ⟨ci, hc⟩ : ∃ c : Int, ((a.1 : Nat) : Int) = c := ⟨_, rfl⟩
        obtain ⟨p, hp⟩ : ∃ p : Int, ((a.2 : Nat) : Int) = p := ⟨_, rfl⟩
        rw [hc] at e0 BA
        rw [hp] at e1 BA
        have d1 : decide (p ≤ ci) = true := decide_eq_true (by omega)
        obtain ⟨c0, c1'⟩ := (Blk.new wr 54 #[.int .u64 ci, .int .u64 p]).two
        clear hx hbl hma oa hc hp hge ha hqc
        go_wp2_with fail
        go_ret2
        exact ⟨0, false, rfl, by omega, by omega, (fun h => by cases h), (fun _ t _ => NO.out t), BA.out⟩
      · have hdv := div_c (a.1 : Int) (a.2 : Int)
        rw [← hqc] at hdv
        obtain ⟨qi, hqi⟩ : ∃ q : Int, ((a.1 * M64 / a.2 : Nat) : Int) = q := ⟨_, rfl⟩
        rw [hqi] at hdv
        have hqlt : a.1 * M64 / a.2 < M64 := (Nat.div_lt_iff_lt_mul (by omega)).2 (by rw [Nat.mul_comm M64]; exact (Nat.mul_lt_mul_right (by unfold M64; omega)).2 (by omega))
        have q00 : (0 : Int) ≤ qi := by rw [← hqi]; exact Int.natCast_nonneg _
        have q0 : 0 ≤ qi ∧ qi < 18446744073709551616 := ⟨q00, by rw [← hqi, ← M64_eq]; exact Int.ofNat_lt.2 hqlt⟩
        obtain ⟨ci, hc⟩ : ∃ c : Int, ((a.1 : Nat) : Int) = c := ⟨_, rfl⟩
        obtain ⟨p, hp⟩ : ∃ p : Int, ((a.2 : Nat) : Int) = p := ⟨_, rfl⟩
        rw [hc] at e0 BA hdv
        rw [hp] at e1 BA hdv
        have d1 : decide (p ≤ ci) = false := decide_eq_false (by omega)
        have DV := Lib.hid (fun W => hdv W (by omega) (by omega) (by omega))
        obtain ⟨c0, c1'⟩ := (Blk.new wr 54 #[.int .u64 ci, .int .u64 p]).two
        by_cases hov : 18446744073709551616 ≤ x + qi
        · have NO := Lib.hid (fun t => no_room (c := c.toNat) (l := l) OK.out (by omega) (by have h1 := prt_le l (k + 1); have h2 := HT.out; have h3 := HX.out; unfold M64 at *; omega) t)
          have AD := add64_c x qi (x + qi - 18446744073709551616) 1 x0 q0.1 (by omega) (by omega)
          clear hx hbl hma oa hc hp hge ha hqc hqi hqlt hdv
          go_wp2_with fail
          refine (DV.out _).mono ?_
          rintro e w' ⟨r, rfl, rfl⟩
          go_wp2_with fail
          go_ret2
          exact ⟨0, false, rfl, by omega, by omega, (fun h => by cases h), (fun _ t _ => NO.out t), BA.out⟩
        · have AD := add64_c x qi (x + qi) 0 x0 q0.1 (by omega) (by omega)
          have HS := Lib.hid (show x + qi = (prt (l.take (k + 1)) : Nat) by have h2 := HT.out; have h3 := HX.out; omega)
          clear hx hbl hma oa hc hp hge ha hqc hqi hqlt hdv
          go_wp2_with fail
          refine (DV.out _).mono ?_
          rintro e w' ⟨r, rfl, rfl⟩
          go_wp2_with fail
          go_roundw
          case rel => exact ⟨k + 1, x + qi, by omega, by go_num, rfl, HS.out, by omega, BA.out⟩
          case measure => simp [intOf]; omega
    · obtain rfl : k = l.length := by omega
      rw [List.take_length] at hx
      have HX := Lib.hid hx
      have x0 : 0 ≤ x := by omega
      by_cases hx0 : x = 0
      · have B0 := Lib.hid (below_ok0 (c := c.toNat) (l := l) (by have := HX.out; omega))
        subst hx0
        clear hx
        go_wp2_with fail
        go_ret2
        exact ⟨c, true, rfl, by omega, by omega, (fun _ => B0.out), (fun h => by cases h), hbl⟩
      · have hpl : prt l < M64 := by unfold M64; omega
        obtain ⟨lf, hlf⟩ : ∃ lf : Int, 18446744073709551616 - x = lf := ⟨_, rfl⟩
        have hng : IntKind.u64.wrap (-x) = lf := by rw [IntKind.wrap_u64]; omega
        have z1 : (lf == 0) = false := beq_eq_false_iff_ne.2 (by omega)
        have hml : ((M64 - prt l : Nat) : Int) = lf := by unfold M64 at hpl ⊢; omega
        by_cases hcl : lf ≤ c
        · have d1 : decide (lf ≤ c) = true := decide_eq_true hcl
          have NO := Lib.hid (fun t (ht : t < M64) => no_room2 (c := c.toNat) OK.out hpl (by omega) ht)
          clear hx hpl hml hcl hlf hx0
          go_wp2_with fail
          go_ret2
          exact ⟨0, false, rfl, by omega, by omega, (fun h => by cases h), (fun _ t ht => NO.out t ht), hbl⟩
        · have d1 : decide (lf ≤ c) = false := decide_eq_false hcl
          have DV := Lib.hid (fun W => div_c c lf W c1 (by omega) (by omega))
          obtain ⟨s, hs⟩ : ∃ s, c * 18446744073709551616 / lf = s := ⟨_, rfl⟩
          have s0 : 0 ≤ s := by rw [← hs]; exact Int.ediv_nonneg (by omega) (by omega)
          have s1 : s * lf ≤ c * 18446744073709551616 := by rw [← hs]; exact Int.ediv_mul_le _ (by omega)
          have s2 : s < 18446744073709551616 := by rw [← hs]; refine (Int.ediv_lt_iff_lt_mul (by omega)).2 ?_; rw [Int.mul_comm c]; exact Int.mul_lt_mul_of_pos_left (by omega) (by omega)
          have s3 : s.toNat * (M64 - prt l) ≤ c.toNat * M64 := by
            have e1 : ((s.toNat * (M64 - prt l) : Nat) : Int) = s * lf := by rw [Int.natCast_mul, Int.toNat_of_nonneg s0, hml]
            have e2 : ((c.toNat * M64 : Nat) : Int) = c * 18446744073709551616 := by rw [Int.natCast_mul, Int.toNat_of_nonneg (by omega), M64_eq]
            omega
          have BO := Lib.hid (below_ok (c := c.toNat) OK.out hpl s3)
          rw [hs] at DV
          clear hx hpl hml hcl hlf hx0 hs s1 s3
          go_wp2_with fail
          refine (DV.out _).mono ?_
          rintro e w' ⟨r, rfl, rfl⟩
          go_wp2_with fail
          go_ret2
          exact ⟨s, true, rfl, s0, by omega, (fun _ => BO.out), (fun h => by cases h), hbl⟩
end
end Go.Proofs.Ythbghenikooagaa
