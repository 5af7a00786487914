/- Layer 16: the library's division of two words by one: the upper one less than it, the lower one nothing. -/
import Derived.Test.YthbghenikooagaaRtaC
import Derived.Test.YthbghenikooagaaRtaL
import Derived.Laws.Bits64b
namespace Go.Proofs.Ythbghenikooagaa
open Go.RowKit
set_option linter.unusedVariables false
set_option maxRecDepth 100000
set_option maxHeartbeats 2000000
theorem lz_c (x : Int) (w : World) (h0 : 1 ≤ x) (h1 : x ≤ 18446744073709551615) :
    Calls Try.prog 35 #[.int .u64 x] w fun e w' => e = .returned (.int .i64 (64 - (Lib.bitLen x.toNat : Int))) ∧ w = w' := by
  obtain ⟨a, b, c⟩ := len_spec 64 x.toNat (by omega) (by omega) (by omega)
  have d := Lib.bitLen_le x.toNat 64 (by omega) (by omega)
  have L := Lib.hid (len64_c x w h0 h1)
  generalize Lib.bitLen x.toNat = n at *
  obtain ⟨y, hy⟩ : ∃ y : Int, (n : Int) = y := ⟨_, rfl⟩
  rw [hy] at L ⊢
  have y0 : 1 ≤ y ∧ y ≤ 64 := by omega
  clear a b c d hy
  go_enter Try.func35, Try.ntmps35
  go_wp2_with fail
  refine L.out.mono ?_
  rintro e w' ⟨rfl, rfl⟩
  go_wp2_with fail
  go_ret
  exact ⟨rfl, rfl⟩
theorem and_low {x : Int} (h0 : 0 ≤ x) (h1 : x ≤ 18446744073709551615) : bits BinOp.and IntKind.u64 x 4294967295 = x % 4294967296 := by
  obtain ⟨n, rfl⟩ := Int.eq_ofNat_of_zero_le h0
  have h := bits_and_u64_nat n 4294967295 (by omega) (by omega)
  have e : n &&& 4294967295 = n % 4294967296 := Nat.and_two_pow_sub_one_eq_mod n 32
  rw [e] at h
  have h2 : bits BinOp.and IntKind.u64 (n : Int) 4294967295 = bits BinOp.and IntKind.u64 (n : Int) ((4294967295 : Nat) : Int) := rfl
  rw [h2, h]; omega
theorem or_zero {x : Int} (h0 : 0 ≤ x) (h1 : x ≤ 18446744073709551615) : bits BinOp.or IntKind.u64 x 0 = x := by
  obtain ⟨n, rfl⟩ := Int.eq_ofNat_of_zero_le h0
  have e : (BitVec.ofInt 64 (n : Int)).toNat = n := by
    rw [BitVec.ofInt_natCast, BitVec.toNat_ofNat]; exact Nat.mod_eq_of_lt (by omega)
  show IntKind.u64.wrap ((BitVec.ofInt 64 (n : Int) ||| BitVec.ofInt 64 0).toNat : Int) = _
  rw [BitVec.toNat_or, e]
  have z : (BitVec.ofInt 64 0).toNat = 0 := by decide
  rw [z, Nat.or_zero]
  exact IntWalk.u64_in _ ⟨by omega, by omega⟩
/-! ### The two digits -/
structure Dg (U Y V Z : Int) : Prop where
  y : Y = V * 4294967296 + Z
  z0 : 0 ≤ Z
  z1 : Z < 4294967296
  v0 : 2147483648 ≤ V
  v1 : V < 4294967296
  u0 : 0 ≤ U
  u1 : U < Y
structure DI (U Y V : Int) (q r : Int) : Prop where
  e : q * V + r = U
  r0 : 0 ≤ r
  r1 : r < 4294967296
  q0 : 0 ≤ q
  q1 : q ≤ 4294967298
  hi : U * 4294967296 < (q + 1) * Y
section
variable {U Y V Z q r : Int}
theorem Dg.mul (h : Dg U Y V Z) (q : Int) : q * Y = q * V * 4294967296 + q * Z := by
  rw [h.y, Int.mul_add, Int.mul_assoc]
theorem Dg.start (h : Dg U Y V Z) : DI U Y V (U / V) (U - U / V * V) := by
  have hv := h.v0
  have h1 := Int.mul_ediv_add_emod U V
  have h2 := Int.emod_nonneg U (show V ≠ 0 by omega)
  have h3 := Int.emod_lt_of_pos U (show 0 < V by omega)
  have hq : 0 ≤ U / V := Int.ediv_nonneg h.u0 (by omega)
  rw [Int.mul_comm] at h1
  have hm := h.mul (U / V + 1)
  have hv1 := h.v1
  have hu := h.u1
  have hy := h.y
  have hz0 := h.z0
  have hz1 := h.z1
  generalize U / V = q at *
  have hB : 0 ≤ (q + 1) * Z := Int.mul_nonneg (by omega) hz0
  have hA : (q + 1) * V = q * V + V := by rw [Int.add_mul, Int.one_mul]
  refine ⟨by omega, by omega, by omega, hq, ?_, by omega⟩
  apply Classical.byContradiction
  intro hc
  have h5 : 4294967299 * V ≤ q * V := Int.mul_le_mul_of_nonneg_right (by omega) (by omega)
  omega
theorem Dg.uniq (h : Dg U Y V Z) (h1 : q * Y ≤ U * 4294967296) (h2 : U * 4294967296 < (q + 1) * Y) : q = U * 4294967296 / Y := by
  have hy : 0 < Y := by have := h.u0; have := h.u1; omega
  have a : q ≤ U * 4294967296 / Y := (Int.le_ediv_iff_mul_le hy).2 h1
  have b : U * 4294967296 / Y < q + 1 := (Int.ediv_lt_iff_lt_mul hy).2 h2
  omega
theorem Dg.stop (h : Dg U Y V Z) (i : DI U Y V q r) (h2 : q * Z ≤ 4294967296 * r) : q = U * 4294967296 / Y := by
  refine h.uniq ?_ i.hi
  rw [h.mul q]
  have := i.e
  omega
theorem Dg.more (h : Dg U Y V Z) (i : DI U Y V q r) (h2 : 4294967296 ≤ q ∨ 4294967296 * r < q * Z) : 1 ≤ q ∧ U * 4294967296 < q * Y := by
  have key : U * 4294967296 < q * Y := by
    rcases h2 with h2 | h2
    · have h3 : 4294967296 * Y ≤ q * Y := Int.mul_le_mul_of_nonneg_right h2 (by have := h.u0; have := h.u1; omega)
      have := h.u1
      omega
    · rw [h.mul q]
      have := i.e
      omega
  refine ⟨?_, key⟩
  apply Classical.byContradiction
  intro hc
  have : q = 0 := by have := i.q0; omega
  rw [this, Int.zero_mul] at key
  have := h.u0
  omega
theorem Dg.next (h : Dg U Y V Z) (i : DI U Y V q r) (h2 : 4294967296 ≤ q ∨ 4294967296 * r < q * Z) (h3 : r + V < 4294967296) : DI U Y V (q - 1) (r + V) := by
  obtain ⟨a, b⟩ := h.more i h2
  have e : (q - 1) * V = q * V - V := by rw [Int.sub_mul, Int.one_mul]
  have := i.e
  have := i.r0
  have := h.v0
  have := i.q1
  exact ⟨by omega, by omega, h3, by omega, by omega, by rw [show q - 1 + 1 = q by omega]; exact b⟩
theorem Dg.last (h : Dg U Y V Z) (i : DI U Y V q r) (h2 : 4294967296 ≤ q ∨ 4294967296 * r < q * Z) (h3 : 4294967296 ≤ r + V) : q - 1 = U * 4294967296 / Y := by
  obtain ⟨a, b⟩ := h.more i h2
  refine h.uniq ?_ (by rw [show q - 1 + 1 = q by omega]; exact b)
  rw [h.mul (q - 1)]
  have e : (q - 1) * V = q * V - V := by rw [Int.sub_mul, Int.one_mul]
  have := i.e
  have h4 : (q - 1) * Z ≤ 4294967297 * Z := Int.mul_le_mul_of_nonneg_right (by have := i.q1; omega) h.z0
  have := h.z1
  omega
theorem Dg.rem (h : Dg U Y V Z) : 0 ≤ U * 4294967296 - U * 4294967296 / Y * Y ∧ U * 4294967296 - U * 4294967296 / Y * Y < Y ∧ 0 ≤ U * 4294967296 / Y ∧ U * 4294967296 / Y < 4294967296 := by
  have hy : 0 < Y := by have := h.u0; have := h.u1; omega
  have h1 := Int.mul_ediv_add_emod (U * 4294967296) Y
  have h2 := Int.emod_nonneg (U * 4294967296) (show Y ≠ 0 by omega)
  have h3 := Int.emod_lt_of_pos (U * 4294967296) hy
  rw [Int.mul_comm] at h1
  refine ⟨by omega, by omega, Int.ediv_nonneg (by have := h.u0; omega) (by omega), (Int.ediv_lt_iff_lt_mul hy).2 ?_⟩
  have := h.u1
  rw [Int.mul_comm 4294967296]
  omega
theorem Dg.two (h : Dg U Y V Z) {q0 : Int} (h0 : q0 = (U * 4294967296 - U * 4294967296 / Y * Y) * 4294967296 / Y) : U * 18446744073709551616 / Y = U * 4294967296 / Y * 4294967296 + q0 := by
  have hy : 0 < Y := by have := h.u0; have := h.u1; omega
  have e : U * 18446744073709551616 = (U * 4294967296 - U * 4294967296 / Y * Y) * 4294967296 + U * 4294967296 / Y * 4294967296 * Y := by
    rw [Int.sub_mul, Int.mul_assoc (U * 4294967296 / Y) Y, Int.mul_comm Y, ← Int.mul_assoc (U * 4294967296 / Y)]
    omega
  rw [e, Int.add_mul_ediv_right _ _ (by omega), h0]
  omega
end
set_option maxHeartbeats 8000000 in
theorem div_c (hi y : Int) (w : World) (h1 : 1 ≤ hi) (h2 : hi < y) (h3 : y ≤ 18446744073709551615) :
    Calls Try.prog 33 #[.int .u64 hi, .int .u64 0, .int .u64 y] w fun e w' => ∃ r, e = .returned (.tuple #[.int .u64 (hi * 18446744073709551616 / y), .int .u64 r]) ∧ w = w' := by
  obtain ⟨a, b, c⟩ := len_spec 64 y.toNat (by omega) (by omega) (by omega)
  have d := Lib.bitLen_le y.toNat 64 (by omega) (by omega)
  have L := Lib.hid (lz_c y w (by omega) h3)
  generalize Lib.bitLen y.toNat = n at *
  obtain ⟨s, hs⟩ : ∃ s : Nat, (64 - (n : Int)) = (s : Int) := ⟨64 - n, by omega⟩
  rw [hs] at L
  have z0 : (y == 0) = false := beq_eq_false_iff_ne.2 (by omega)
  have z1 : decide (y ≤ hi) = false := decide_eq_false (by omega)
  have z2 : (hi == 0) = false := beq_eq_false_iff_ne.2 (by omega)
  have s63 : s ≤ 63 := by omega
  have hw0 : IntKind.u64.wrap (s : Int) = s := IntWalk.u64_in _ ⟨by omega, by omega⟩
  have hp : 2 ^ n * 2 ^ s = 18446744073709551616 := by rw [← Nat.pow_add, show n + s = 64 by omega]
  have p0 : 0 < 2 ^ s := Nat.two_pow_pos s
  have a2 := (Nat.mul_lt_mul_right p0).2 a
  have b2 := Nat.mul_le_mul_right (2 ^ s) b
  rw [hp] at a2 b2
  rw [Nat.mul_assoc] at b2
  have yc : ((y.toNat * 2 ^ s : Nat) : Int) = y * 2 ^ s := by
    rw [Int.natCast_mul, Int.toNat_of_nonneg (by omega), Int.natCast_pow]; rfl
  have pc : (0 : Int) < 2 ^ s := Int.pow_pos (by decide)
  have huy := Int.mul_lt_mul_of_pos_right h2 pc
  have hu0 := Int.mul_nonneg (show 0 ≤ hi by omega) (show (0 : Int) ≤ 2 ^ s by omega)
  have HDV := Lib.hid (Int.mul_ediv_mul_of_pos_left (hi * 18446744073709551616) y pc)
  have HS := Lib.hid hs
  obtain ⟨Y, hY⟩ : ∃ Y : Int, y * 2 ^ s = Y := ⟨_, rfl⟩
  obtain ⟨U, hU⟩ : ∃ U : Int, hi * 2 ^ s = U := ⟨_, rfl⟩
  have HDIV := Lib.hid (show U * 18446744073709551616 / Y = hi * 18446744073709551616 / y by
    rw [← HDV.out, hY, ← hU]
    congr 1
    rw [Int.mul_assoc, Int.mul_assoc, Int.mul_comm (2 ^ s)])
  rw [hY] at yc huy
  rw [hU] at huy hu0
  have y1 : 9223372036854775808 ≤ Y := by omega
  have y2 : Y ≤ 18446744073709551615 := by omega
  have wY : IntKind.u64.wrap Y = Y := IntWalk.u64_in _ ⟨by omega, by omega⟩
  have wU : IntKind.u64.wrap U = U := IntWalk.u64_in _ ⟨by omega, by omega⟩
  have bY := and_low (x := Y) (by omega) y2
  have bU := or_zero (x := U) hu0 (by omega)
  have bz : bits BinOp.and IntKind.u64 0 4294967295 = 0 := by decide
  obtain ⟨V, hV⟩ : ∃ V : Int, Y / 4294967296 = V := ⟨_, rfl⟩
  obtain ⟨Z, hZ⟩ : ∃ Z : Int, Y % 4294967296 = Z := ⟨_, rfl⟩
  rw [hZ] at bY
  have G : Dg U Y V Z := ⟨by omega, by omega, by omega, by omega, by omega, hu0, huy⟩
  have v0 := G.v0
  have D1 := G.start
  obtain ⟨Q, hQ⟩ : ∃ q, U / V = q := ⟨_, rfl⟩
  rw [hQ] at D1
  obtain ⟨M, hM⟩ : ∃ m, Q * V = m := ⟨_, rfl⟩
  rw [hM] at D1
  have i1 := D1.e
  have i2 := D1.r0
  have i3 := D1.r1
  have i4 := D1.q0
  rw [hM] at i1
  have hMw : IntKind.u64.wrap M = M := IntWalk.u64_in _ ⟨by rw [← hM]; exact Int.mul_nonneg i4 (by omega), by omega⟩
  have HD1 := Lib.hid D1
  have HD1' := Lib.hid (show DI U Y V (U / V) (U - M) by rw [hQ]; exact D1)
  clear a b c d a2 b2 hp p0 yc pc HDV D1 i1 hs
  go_enter Try.func33, Try.ntmps33
  go_wp2_with fail
  refine L.out.mono ?_
  rintro e w' ⟨rfl, rfl⟩
  go_wp2_with fail
  go_loopw [15, 16] (fun q r wr => ∃ a b : Int, q = .int .u64 a ∧ r = .int .u64 b ∧ DI U Y V a b ∧ w = wr) (fun q _ _ => (intOf q).toNat)
  case atStart => exact ⟨_, _, rfl, rfl, by first | exact HD1.out | exact HD1'.out, by first | rfl | trivial⟩
  case round =>
    obtain ⟨a, b, rfl, rfl, hI, rfl⟩ := hrel
    have ba0 := hI.q0
    by_cases t1 : 4294967296 ≤ a
    · have d1 : decide (4294967296 ≤ a) = true := decide_eq_true t1
      have hor : 4294967296 ≤ a ∨ 4294967296 * b < a * Z := Or.inl t1
      obtain ⟨mo1, mo2⟩ := G.more hI hor
      have bd := hI.q1
      have bv := G.v1
      have b0 := hI.r0
      have br := hI.r1
      by_cases t3 : 4294967296 ≤ b + V
      · have d3 : decide (4294967296 ≤ b + V) = true := decide_eq_true t3
        have HQ1 := Lib.hid (G.last hI hor t3)
        clear hI mo2 hor
        have hq1 : (a - 1) = U * 4294967296 / Y := HQ1.out
        obtain ⟨r1, r2, r3, r4⟩ := G.rem
        rw [← hq1] at r1 r2 r3 r4
        obtain ⟨U2, hU2⟩ : ∃ U2, U * 4294967296 - (a - 1) * Y = U2 := ⟨_, rfl⟩
        rw [hU2] at r1 r2
        have G2 : Dg U2 Y V Z := ⟨G.y, G.z0, G.z1, G.v0, G.v1, r1, r2⟩
        obtain ⟨m1, hm1⟩ : ∃ m, IntKind.u64.wrap (U * 4294967296) = m := ⟨_, rfl⟩
        obtain ⟨m2, hm2⟩ : ∃ m, IntKind.u64.wrap ((a - 1) * Y) = m := ⟨_, rfl⟩
        have g1 := hm1
        have g2 := hm2
        rw [IntKind.wrap_u64] at g1 g2
        have m1b : 0 ≤ m1 ∧ m1 ≤ 18446744073709551615 := by omega
        have m12 : IntKind.u64.wrap (m1 - m2) = U2 := by rw [IntKind.wrap_u64, ← g1, ← g2, ← Int.sub_emod, hU2]; exact Int.emod_eq_of_lt r1 (by omega)
        have u2b : 0 ≤ U2 ∧ U2 ≤ 18446744073709551615 := by omega
        have HU2 := Lib.hid (show U * 4294967296 - (a - 1) * Y = U2 from hU2)
        have D2 := G2.start
        obtain ⟨Q2, hQ2⟩ : ∃ q, U2 / V = q := ⟨_, rfl⟩
        rw [hQ2] at D2
        obtain ⟨M2, hM2⟩ : ∃ m, Q2 * V = m := ⟨_, rfl⟩
        rw [hM2] at D2
        have j1 := D2.e
        have j2 := D2.r0
        have j3 := D2.r1
        have j4 := D2.q0
        rw [hM2] at j1
        have hM2w : IntKind.u64.wrap M2 = M2 := IntWalk.u64_in _ ⟨by rw [← hM2]; exact Int.mul_nonneg j4 (by omega), by omega⟩
        have HD2 := Lib.hid D2
        have HD2' := Lib.hid (show DI U2 Y V (U2 / V) (U2 - M2) by rw [hQ2]; exact D2)
        clear g1 g2 hq1 hU2 D2 j1
        go_wp2_with fail
        go_loopw [18, 16] (fun q r wr => ∃ c d : Int, q = .int .u64 c ∧ r = .int .u64 d ∧ DI U2 Y V c d ∧ w = wr) (fun q _ _ => (intOf q).toNat)
        case atStart => exact ⟨_, _, rfl, rfl, by first | exact HD2.out | exact HD2'.out, by first | rfl | trivial⟩
        case round =>
          obtain ⟨c, d, rfl, rfl, hI, rfl⟩ := hrel
          have bc0 := hI.q0
          by_cases t1 : 4294967296 ≤ c
          · have d1 : decide (4294967296 ≤ c) = true := decide_eq_true t1
            have hor : 4294967296 ≤ c ∨ 4294967296 * d < c * Z := Or.inl t1
            obtain ⟨mo1, mo2⟩ := G2.more hI hor
            have bd := hI.q1
            have bv := G2.v1
            have b0 := hI.r0
            have br := hI.r1
            by_cases t3 : 4294967296 ≤ d + V
            · have d3 : decide (4294967296 ≤ d + V) = true := decide_eq_true t3
              have HQ0 := Lib.hid (G2.last hI hor t3)
              clear hI mo2 hor
              have hq0 : (c - 1) = U2 * 4294967296 / Y := HQ0.out
              have hfin : hi * 18446744073709551616 / y = (a - 1) * 4294967296 + (c - 1) := by
                have h := G.two (q0 := (c - 1)) (by rw [← HQ1.out, HU2.out]; exact hq0)
                rw [← HQ1.out] at h
                rw [← h]; exact HDIV.out.symm
              have hb0 : 0 ≤ (c - 1) ∧ (c - 1) < 4294967296 := by rw [hq0]; exact ⟨G2.rem.2.2.1, G2.rem.2.2.2⟩
              have HF := Lib.hid hfin
              clear hq0 hfin
              go_wp2_with fail
              go_ret2
              rw [HF.out]
              first | exact ⟨_, rfl, rfl⟩ | exact ⟨_, rfl⟩ | exact ⟨⟨_, rfl⟩, rfl⟩ | exact ⟨⟨_, rfl⟩, trivial⟩ | rfl | (trace_state; fail)
            · have d3 : decide (4294967296 ≤ d + V) = false := decide_eq_false t3
              have HI := Lib.hid (G2.next hI hor (by omega))
              have b1 := hI.r1
              clear hI mo2 hor
              go_wp2_with fail
              go_roundw
              case rel => exact ⟨c - 1, d + V, rfl, rfl, HI.out, by first | rfl | trivial⟩
              case measure => simp [intOf]; omega
          · have d1 : decide (4294967296 ≤ c) = false := decide_eq_false t1
            have aZ : c * Z ≤ 4294967295 * 4294967295 := Int.le_trans (Int.mul_le_mul_of_nonneg_right (show c ≤ 4294967295 by omega) G.z0) (Int.mul_le_mul_of_nonneg_left (show Z ≤ 4294967295 by have := G.z1; omega) (by decide))
            have aZ0 : 0 ≤ c * Z := Int.mul_nonneg bc0 G.z0
            have w1 : IntKind.u64.wrap (c * Z) = c * Z := IntWalk.u64_in _ ⟨aZ0, by omega⟩
            have w2 : IntKind.u64.wrap (4294967296 * d) = 4294967296 * d := IntWalk.u64_in _ ⟨by have := hI.r0; omega, by have := hI.r1; omega⟩
            by_cases t2 : 4294967296 * d < c * Z
            · have d2 : decide (4294967296 * d < c * Z) = true := decide_eq_true t2
              have hor : 4294967296 ≤ c ∨ 4294967296 * d < c * Z := Or.inr t2
              clear aZ aZ0 t2
              obtain ⟨mo1, mo2⟩ := G2.more hI hor
              have bd := hI.q1
              have bv := G2.v1
              have b0 := hI.r0
              have br := hI.r1
              by_cases t3 : 4294967296 ≤ d + V
              · have d3 : decide (4294967296 ≤ d + V) = true := decide_eq_true t3
                have HQ0 := Lib.hid (G2.last hI hor t3)
                clear hI mo2 hor
                have hq0 : (c - 1) = U2 * 4294967296 / Y := HQ0.out
                have hfin : hi * 18446744073709551616 / y = (a - 1) * 4294967296 + (c - 1) := by
                  have h := G.two (q0 := (c - 1)) (by rw [← HQ1.out, HU2.out]; exact hq0)
                  rw [← HQ1.out] at h
                  rw [← h]; exact HDIV.out.symm
                have hb0 : 0 ≤ (c - 1) ∧ (c - 1) < 4294967296 := by rw [hq0]; exact ⟨G2.rem.2.2.1, G2.rem.2.2.2⟩
                have HF := Lib.hid hfin
                clear hq0 hfin
                go_wp2_with fail
                go_ret2
                rw [HF.out]
                first | exact ⟨_, rfl, rfl⟩ | exact ⟨_, rfl⟩ | exact ⟨⟨_, rfl⟩, rfl⟩ | exact ⟨⟨_, rfl⟩, trivial⟩ | rfl | (trace_state; fail)
              · have d3 : decide (4294967296 ≤ d + V) = false := decide_eq_false t3
                have HI := Lib.hid (G2.next hI hor (by omega))
                have b1 := hI.r1
                clear hI mo2 hor
                go_wp2_with fail
                go_roundw
                case rel => exact ⟨c - 1, d + V, rfl, rfl, HI.out, by first | rfl | trivial⟩
                case measure => simp [intOf]; omega
            · have d2 : decide (4294967296 * d < c * Z) = false := decide_eq_false t2
              have HQ0 := Lib.hid (G2.stop hI (by omega))
              have bd := hI.q1
              clear hI aZ aZ0 t2
              have hq0 : c = U2 * 4294967296 / Y := HQ0.out
              have hfin : hi * 18446744073709551616 / y = (a - 1) * 4294967296 + c := by
                have h := G.two (q0 := c) (by rw [← HQ1.out, HU2.out]; exact hq0)
                rw [← HQ1.out] at h
                rw [← h]; exact HDIV.out.symm
              have hb0 : 0 ≤ c ∧ c < 4294967296 := by rw [hq0]; exact ⟨G2.rem.2.2.1, G2.rem.2.2.2⟩
              have HF := Lib.hid hfin
              clear hq0 hfin
              go_wp2_with fail
              go_ret2
              rw [HF.out]
              first | exact ⟨_, rfl, rfl⟩ | exact ⟨_, rfl⟩ | exact ⟨⟨_, rfl⟩, rfl⟩ | exact ⟨⟨_, rfl⟩, trivial⟩ | rfl | (trace_state; fail)
      · have d3 : decide (4294967296 ≤ b + V) = false := decide_eq_false t3
        have HI := Lib.hid (G.next hI hor (by omega))
        have b1 := hI.r1
        clear hI mo2 hor
        go_wp2_with fail
        go_roundw
        case rel => exact ⟨a - 1, b + V, rfl, rfl, HI.out, by first | rfl | trivial⟩
        case measure => simp [intOf]; omega
    · have d1 : decide (4294967296 ≤ a) = false := decide_eq_false t1
      have aZ : a * Z ≤ 4294967295 * 4294967295 := Int.le_trans (Int.mul_le_mul_of_nonneg_right (show a ≤ 4294967295 by omega) G.z0) (Int.mul_le_mul_of_nonneg_left (show Z ≤ 4294967295 by have := G.z1; omega) (by decide))
      have aZ0 : 0 ≤ a * Z := Int.mul_nonneg ba0 G.z0
      have w1 : IntKind.u64.wrap (a * Z) = a * Z := IntWalk.u64_in _ ⟨aZ0, by omega⟩
      have w2 : IntKind.u64.wrap (4294967296 * b) = 4294967296 * b := IntWalk.u64_in _ ⟨by have := hI.r0; omega, by have := hI.r1; omega⟩
      by_cases t2 : 4294967296 * b < a * Z
      · have d2 : decide (4294967296 * b < a * Z) = true := decide_eq_true t2
        have hor : 4294967296 ≤ a ∨ 4294967296 * b < a * Z := Or.inr t2
        clear aZ aZ0 t2
        obtain ⟨mo1, mo2⟩ := G.more hI hor
        have bd := hI.q1
        have bv := G.v1
        have b0 := hI.r0
        have br := hI.r1
        by_cases t3 : 4294967296 ≤ b + V
        · have d3 : decide (4294967296 ≤ b + V) = true := decide_eq_true t3
          have HQ1 := Lib.hid (G.last hI hor t3)
          clear hI mo2 hor
          have hq1 : (a - 1) = U * 4294967296 / Y := HQ1.out
          obtain ⟨r1, r2, r3, r4⟩ := G.rem
          rw [← hq1] at r1 r2 r3 r4
          obtain ⟨U2, hU2⟩ : ∃ U2, U * 4294967296 - (a - 1) * Y = U2 := ⟨_, rfl⟩
          rw [hU2] at r1 r2
          have G2 : Dg U2 Y V Z := ⟨G.y, G.z0, G.z1, G.v0, G.v1, r1, r2⟩
          obtain ⟨m1, hm1⟩ : ∃ m, IntKind.u64.wrap (U * 4294967296) = m := ⟨_, rfl⟩
          obtain ⟨m2, hm2⟩ : ∃ m, IntKind.u64.wrap ((a - 1) * Y) = m := ⟨_, rfl⟩
          have g1 := hm1
          have g2 := hm2
          rw [IntKind.wrap_u64] at g1 g2
          have m1b : 0 ≤ m1 ∧ m1 ≤ 18446744073709551615 := by omega
          have m12 : IntKind.u64.wrap (m1 - m2) = U2 := by rw [IntKind.wrap_u64, ← g1, ← g2, ← Int.sub_emod, hU2]; exact Int.emod_eq_of_lt r1 (by omega)
          have u2b : 0 ≤ U2 ∧ U2 ≤ 18446744073709551615 := by omega
          have HU2 := Lib.hid (show U * 4294967296 - (a - 1) * Y = U2 from hU2)
          have D2 := G2.start
          obtain ⟨Q2, hQ2⟩ : ∃ q, U2 / V = q := ⟨_, rfl⟩
          rw [hQ2] at D2
          obtain ⟨M2, hM2⟩ : ∃ m, Q2 * V = m := ⟨_, rfl⟩
          rw [hM2] at D2
          have j1 := D2.e
          have j2 := D2.r0
          have j3 := D2.r1
          have j4 := D2.q0
          rw [hM2] at j1
          have hM2w : IntKind.u64.wrap M2 = M2 := IntWalk.u64_in _ ⟨by rw [← hM2]; exact Int.mul_nonneg j4 (by omega), by omega⟩
          have HD2 := Lib.hid D2
          have HD2' := Lib.hid (show DI U2 Y V (U2 / V) (U2 - M2) by rw [hQ2]; exact D2)
          clear g1 g2 hq1 hU2 D2 j1
          go_wp2_with fail
          go_loopw [18, 16] (fun q r wr => ∃ c d : Int, q = .int .u64 c ∧ r = .int .u64 d ∧ DI U2 Y V c d ∧ w = wr) (fun q _ _ => (intOf q).toNat)
          case atStart => exact ⟨_, _, rfl, rfl, by first | exact HD2.out | exact HD2'.out, by first | rfl | trivial⟩
          case round =>
            obtain ⟨c, d, rfl, rfl, hI, rfl⟩ := hrel
            have bc0 := hI.q0
            by_cases t1 : 4294967296 ≤ c
            · have d1 : decide (4294967296 ≤ c) = true := decide_eq_true t1
              have hor : 4294967296 ≤ c ∨ 4294967296 * d < c * Z := Or.inl t1
              obtain ⟨mo1, mo2⟩ := G2.more hI hor
              have bd := hI.q1
              have bv := G2.v1
              have b0 := hI.r0
              have br := hI.r1
              by_cases t3 : 4294967296 ≤ d + V
              · have d3 : decide (4294967296 ≤ d + V) = true := decide_eq_true t3
                have HQ0 := Lib.hid (G2.last hI hor t3)
                clear hI mo2 hor
                have hq0 : (c - 1) = U2 * 4294967296 / Y := HQ0.out
                have hfin : hi * 18446744073709551616 / y = (a - 1) * 4294967296 + (c - 1) := by
                  have h := G.two (q0 := (c - 1)) (by rw [← HQ1.out, HU2.out]; exact hq0)
                  rw [← HQ1.out] at h
                  rw [← h]; exact HDIV.out.symm
                have hb0 : 0 ≤ (c - 1) ∧ (c - 1) < 4294967296 := by rw [hq0]; exact ⟨G2.rem.2.2.1, G2.rem.2.2.2⟩
                have HF := Lib.hid hfin
                clear hq0 hfin
                go_wp2_with fail
                go_ret2
                rw [HF.out]
                first | exact ⟨_, rfl, rfl⟩ | exact ⟨_, rfl⟩ | exact ⟨⟨_, rfl⟩, rfl⟩ | exact ⟨⟨_, rfl⟩, trivial⟩ | rfl | (trace_state; fail)
              · have d3 : decide (4294967296 ≤ d + V) = false := decide_eq_false t3
                have HI := Lib.hid (G2.next hI hor (by omega))
                have b1 := hI.r1
                clear hI mo2 hor
                go_wp2_with fail
                go_roundw
                case rel => exact ⟨c - 1, d + V, rfl, rfl, HI.out, by first | rfl | trivial⟩
                case measure => simp [intOf]; omega
            · have d1 : decide (4294967296 ≤ c) = false := decide_eq_false t1
              have aZ : c * Z ≤ 4294967295 * 4294967295 := Int.le_trans (Int.mul_le_mul_of_nonneg_right (show c ≤ 4294967295 by omega) G.z0) (Int.mul_le_mul_of_nonneg_left (show Z ≤ 4294967295 by have := G.z1; omega) (by decide))
              have aZ0 : 0 ≤ c * Z := Int.mul_nonneg bc0 G.z0
              have w1 : IntKind.u64.wrap (c * Z) = c * Z := IntWalk.u64_in _ ⟨aZ0, by omega⟩
              have w2 : IntKind.u64.wrap (4294967296 * d) = 4294967296 * d := IntWalk.u64_in _ ⟨by have := hI.r0; omega, by have := hI.r1; omega⟩
              by_cases t2 : 4294967296 * d < c * Z
              · have d2 : decide (4294967296 * d < c * Z) = true := decide_eq_true t2
                have hor : 4294967296 ≤ c ∨ 4294967296 * d < c * Z := Or.inr t2
                clear aZ aZ0 t2
                obtain ⟨mo1, mo2⟩ := G2.more hI hor
                have bd := hI.q1
                have bv := G2.v1
                have b0 := hI.r0
                have br := hI.r1
                by_cases t3 : 4294967296 ≤ d + V
                · have d3 : decide (4294967296 ≤ d + V) = true := decide_eq_true t3
                  have HQ0 := Lib.hid (G2.last hI hor t3)
                  clear hI mo2 hor
                  have hq0 : (c - 1) = U2 * 4294967296 / Y := HQ0.out
                  have hfin : hi * 18446744073709551616 / y = (a - 1) * 4294967296 + (c - 1) := by
                    have h := G.two (q0 := (c - 1)) (by rw [← HQ1.out, HU2.out]; exact hq0)
                    rw [← HQ1.out] at h
                    rw [← h]; exact HDIV.out.symm
                  have hb0 : 0 ≤ (c - 1) ∧ (c - 1) < 4294967296 := by rw [hq0]; exact ⟨G2.rem.2.2.1, G2.rem.2.2.2⟩
                  have HF := Lib.hid hfin
                  clear hq0 hfin
                  go_wp2_with fail
                  go_ret2
                  rw [HF.out]
                  first | exact ⟨_, rfl, rfl⟩ | exact ⟨_, rfl⟩ | exact ⟨⟨_, rfl⟩, rfl⟩ | exact ⟨⟨_, rfl⟩, trivial⟩ | rfl | (trace_state; fail)
                · have d3 : decide (4294967296 ≤ d + V) = false := decide_eq_false t3
                  have HI := Lib.hid (G2.next hI hor (by omega))
                  have b1 := hI.r1
                  clear hI mo2 hor
                  go_wp2_with fail
                  go_roundw
                  case rel => exact ⟨c - 1, d + V, rfl, rfl, HI.out, by first | rfl | trivial⟩
                  case measure => simp [intOf]; omega
              · have d2 : decide (4294967296 * d < c * Z) = false := decide_eq_false t2
                have HQ0 := Lib.hid (G2.stop hI (by omega))
                have bd := hI.q1
                clear hI aZ aZ0 t2
                have hq0 : c = U2 * 4294967296 / Y := HQ0.out
                have hfin : hi * 18446744073709551616 / y = (a - 1) * 4294967296 + c := by
                  have h := G.two (q0 := c) (by rw [← HQ1.out, HU2.out]; exact hq0)
                  rw [← HQ1.out] at h
                  rw [← h]; exact HDIV.out.symm
                have hb0 : 0 ≤ c ∧ c < 4294967296 := by rw [hq0]; exact ⟨G2.rem.2.2.1, G2.rem.2.2.2⟩
                have HF := Lib.hid hfin
                clear hq0 hfin
                go_wp2_with fail
                go_ret2
                rw [HF.out]
                first | exact ⟨_, rfl, rfl⟩ | exact ⟨_, rfl⟩ | exact ⟨⟨_, rfl⟩, rfl⟩ | exact ⟨⟨_, rfl⟩, trivial⟩ | rfl | (trace_state; fail)
        · have d3 : decide (4294967296 ≤ b + V) = false := decide_eq_false t3
          have HI := Lib.hid (G.next hI hor (by omega))
          have b1 := hI.r1
          clear hI mo2 hor
          go_wp2_with fail
          go_roundw
          case rel => exact ⟨a - 1, b + V, rfl, rfl, HI.out, by first | rfl | trivial⟩
          case measure => simp [intOf]; omega
      · have d2 : decide (4294967296 * b < a * Z) = false := decide_eq_false t2
        have HQ1 := Lib.hid (G.stop hI (by omega))
        have bd := hI.q1
        clear hI aZ aZ0 t2
        have hq1 : a = U * 4294967296 / Y := HQ1.out
        obtain ⟨r1, r2, r3, r4⟩ := G.rem
        rw [← hq1] at r1 r2 r3 r4
        obtain ⟨U2, hU2⟩ : ∃ U2, U * 4294967296 - a * Y = U2 := ⟨_, rfl⟩
        rw [hU2] at r1 r2
        have G2 : Dg U2 Y V Z := ⟨G.y, G.z0, G.z1, G.v0, G.v1, r1, r2⟩
        obtain ⟨m1, hm1⟩ : ∃ m, IntKind.u64.wrap (U * 4294967296) = m := ⟨_, rfl⟩
        obtain ⟨m2, hm2⟩ : ∃ m, IntKind.u64.wrap (a * Y) = m := ⟨_, rfl⟩
        have g1 := hm1
        have g2 := hm2
        rw [IntKind.wrap_u64] at g1 g2
        have m1b : 0 ≤ m1 ∧ m1 ≤ 18446744073709551615 := by omega
        have m12 : IntKind.u64.wrap (m1 - m2) = U2 := by rw [IntKind.wrap_u64, ← g1, ← g2, ← Int.sub_emod, hU2]; exact Int.emod_eq_of_lt r1 (by omega)
        have u2b : 0 ≤ U2 ∧ U2 ≤ 18446744073709551615 := by omega
        have HU2 := Lib.hid (show U * 4294967296 - a * Y = U2 from hU2)
        have D2 := G2.start
        obtain ⟨Q2, hQ2⟩ : ∃ q, U2 / V = q := ⟨_, rfl⟩
        rw [hQ2] at D2
        obtain ⟨M2, hM2⟩ : ∃ m, Q2 * V = m := ⟨_, rfl⟩
        rw [hM2] at D2
        have j1 := D2.e
        have j2 := D2.r0
        have j3 := D2.r1
        have j4 := D2.q0
        rw [hM2] at j1
        have hM2w : IntKind.u64.wrap M2 = M2 := IntWalk.u64_in _ ⟨by rw [← hM2]; exact Int.mul_nonneg j4 (by omega), by omega⟩
        have HD2 := Lib.hid D2
        have HD2' := Lib.hid (show DI U2 Y V (U2 / V) (U2 - M2) by rw [hQ2]; exact D2)
        clear g1 g2 hq1 hU2 D2 j1
        go_wp2_with fail
        go_loopw [18, 16] (fun q r wr => ∃ c d : Int, q = .int .u64 c ∧ r = .int .u64 d ∧ DI U2 Y V c d ∧ w = wr) (fun q _ _ => (intOf q).toNat)
        case atStart => exact ⟨_, _, rfl, rfl, by first | exact HD2.out | exact HD2'.out, by first | rfl | trivial⟩
        case round =>
          obtain ⟨c, d, rfl, rfl, hI, rfl⟩ := hrel
          have bc0 := hI.q0
          by_cases t1 : 4294967296 ≤ c
          · have d1 : decide (4294967296 ≤ c) = true := decide_eq_true t1
            have hor : 4294967296 ≤ c ∨ 4294967296 * d < c * Z := Or.inl t1
            obtain ⟨mo1, mo2⟩ := G2.more hI hor
            have bd := hI.q1
            have bv := G2.v1
            have b0 := hI.r0
            have br := hI.r1
            by_cases t3 : 4294967296 ≤ d + V
            · have d3 : decide (4294967296 ≤ d + V) = true := decide_eq_true t3
              have HQ0 := Lib.hid (G2.last hI hor t3)
              clear hI mo2 hor
              have hq0 : (c - 1) = U2 * 4294967296 / Y := HQ0.out
              have hfin : hi * 18446744073709551616 / y = a * 4294967296 + (c - 1) := by
                have h := G.two (q0 := (c - 1)) (by rw [← HQ1.out, HU2.out]; exact hq0)
                rw [← HQ1.out] at h
                rw [← h]; exact HDIV.out.symm
              have hb0 : 0 ≤ (c - 1) ∧ (c - 1) < 4294967296 := by rw [hq0]; exact ⟨G2.rem.2.2.1, G2.rem.2.2.2⟩
              have HF := Lib.hid hfin
              clear hq0 hfin
              go_wp2_with fail
              go_ret2
              rw [HF.out]
              first | exact ⟨_, rfl, rfl⟩ | exact ⟨_, rfl⟩ | exact ⟨⟨_, rfl⟩, rfl⟩ | exact ⟨⟨_, rfl⟩, trivial⟩ | rfl | (trace_state; fail)
            · have d3 : decide (4294967296 ≤ d + V) = false := decide_eq_false t3
              have HI := Lib.hid (G2.next hI hor (by omega))
              have b1 := hI.r1
              clear hI mo2 hor
              go_wp2_with fail
              go_roundw
              case rel => exact ⟨c - 1, d + V, rfl, rfl, HI.out, by first | rfl | trivial⟩
              case measure => simp [intOf]; omega
          · have d1 : decide (4294967296 ≤ c) = false := decide_eq_false t1
            have aZ : c * Z ≤ 4294967295 * 4294967295 := Int.le_trans (Int.mul_le_mul_of_nonneg_right (show c ≤ 4294967295 by omega) G.z0) (Int.mul_le_mul_of_nonneg_left (show Z ≤ 4294967295 by have := G.z1; omega) (by decide))
            have aZ0 : 0 ≤ c * Z := Int.mul_nonneg bc0 G.z0
            have w1 : IntKind.u64.wrap (c * Z) = c * Z := IntWalk.u64_in _ ⟨aZ0, by omega⟩
            have w2 : IntKind.u64.wrap (4294967296 * d) = 4294967296 * d := IntWalk.u64_in _ ⟨by have := hI.r0; omega, by have := hI.r1; omega⟩
            by_cases t2 : 4294967296 * d < c * Z
            · have d2 : decide (4294967296 * d < c * Z) = true := decide_eq_true t2
              have hor : 4294967296 ≤ c ∨ 4294967296 * d < c * Z := Or.inr t2
              clear aZ aZ0 t2
              obtain ⟨mo1, mo2⟩ := G2.more hI hor
              have bd := hI.q1
              have bv := G2.v1
              have b0 := hI.r0
              have br := hI.r1
              by_cases t3 : 4294967296 ≤ d + V
              · have d3 : decide (4294967296 ≤ d + V) = true := decide_eq_true t3
                have HQ0 := Lib.hid (G2.last hI hor t3)
                clear hI mo2 hor
                have hq0 : (c - 1) = U2 * 4294967296 / Y := HQ0.out
                have hfin : hi * 18446744073709551616 / y = a * 4294967296 + (c - 1) := by
                  have h := G.two (q0 := (c - 1)) (by rw [← HQ1.out, HU2.out]; exact hq0)
                  rw [← HQ1.out] at h
                  rw [← h]; exact HDIV.out.symm
                have hb0 : 0 ≤ (c - 1) ∧ (c - 1) < 4294967296 := by rw [hq0]; exact ⟨G2.rem.2.2.1, G2.rem.2.2.2⟩
                have HF := Lib.hid hfin
                clear hq0 hfin
                go_wp2_with fail
                go_ret2
                rw [HF.out]
                first | exact ⟨_, rfl, rfl⟩ | exact ⟨_, rfl⟩ | exact ⟨⟨_, rfl⟩, rfl⟩ | exact ⟨⟨_, rfl⟩, trivial⟩ | rfl | (trace_state; fail)
              · have d3 : decide (4294967296 ≤ d + V) = false := decide_eq_false t3
                have HI := Lib.hid (G2.next hI hor (by omega))
                have b1 := hI.r1
                clear hI mo2 hor
                go_wp2_with fail
                go_roundw
                case rel => exact ⟨c - 1, d + V, rfl, rfl, HI.out, by first | rfl | trivial⟩
                case measure => simp [intOf]; omega
            · have d2 : decide (4294967296 * d < c * Z) = false := decide_eq_false t2
              have HQ0 := Lib.hid (G2.stop hI (by omega))
              have bd := hI.q1
              clear hI aZ aZ0 t2
              have hq0 : c = U2 * 4294967296 / Y := HQ0.out
              have hfin : hi * 18446744073709551616 / y = a * 4294967296 + c := by
                have h := G.two (q0 := c) (by rw [← HQ1.out, HU2.out]; exact hq0)
                rw [← HQ1.out] at h
                rw [← h]; exact HDIV.out.symm
              have hb0 : 0 ≤ c ∧ c < 4294967296 := by rw [hq0]; exact ⟨G2.rem.2.2.1, G2.rem.2.2.2⟩
              have HF := Lib.hid hfin
              clear hq0 hfin
              go_wp2_with fail
              go_ret2
              rw [HF.out]
              first | exact ⟨_, rfl, rfl⟩ | exact ⟨_, rfl⟩ | exact ⟨⟨_, rfl⟩, rfl⟩ | exact ⟨⟨_, rfl⟩, trivial⟩ | rfl | (trace_state; fail)
end Go.Proofs.Ythbghenikooagaa
