/- Layer 4: a wheel in memory; where a timer lies, and when a place begins. -/
import Derived.Test.YthdhfjcgboglfaaWhM
import Derived.Test.YthdhfjcgboglfaaFam
import Derived.Test.YthdhfjcgboglfaaFill
import Derived.Test.YthdhfjcgboglfaaFr
import Derived.Laws.BitsLemmas
namespace Go.Proofs.Ythdhfjcgboglfaa
open Go.RowKit
set_option linter.unusedVariables false
set_option maxRecDepth 100000
set_option maxHeartbeats 2000000
def WV (W : Int → Option Int) : Int → Option Value := fun i => (W i).map fun a => .int .u64 a
/-- The timers of a place. -/
def MS (T : Int → Option Int) (now : Int) (s : Nat) : Int → Option Value := fun i => match T i with
  | some a => if SpS now a s then some (.int .u64 a) else none
  | none => none
def wv (now : Int) (bw : Nat) (mb : Nat → Option Nat) (k : Nat) : Value := if k = 0 then .int .u64 now else if k = 1 then .map (some bw) else .map (mb (k - 2))
/-- A wheel: its cells, the timers that it knows (W), those that lie in places (T), and X. -/
def WL (m c bw : Nat) (now : Int) (mb : Nat → Option Nat) (W T : Int → Option Int) (X : List Res) : List Res :=
  ([ArrR c 84 706 (wv now bw mb), OptM Try.prog 3 (some bw) (WV W)] ++ (List.range m).map (fun s => OptM Try.prog 3 (mb s) (MS T now s))) ++ X
section
variable {w0 w w' : World} {S0 S : Nat → Prop} {L X : List Res} {m c bw s : Nat} {now at' : Int} {mb : Nat → Option Nat} {W T : Int → Option Int}
theorem wl_0 : (WL m c bw now mb W T X)[0]? = some (ArrR c 84 706 (wv now bw mb)) := rfl
theorem wl_1 : (WL m c bw now mb W T X)[1]? = some (OptM Try.prog 3 (some bw) (WV W)) := rfl
theorem wl_s (hs : s < m) : (WL m c bw now mb W T X)[2 + s]? = some (OptM Try.prog 3 (mb s) (MS T now s)) := by
  unfold WL
  rw [List.getElem?_append_left (by simp; omega)]
  exact fam_at [_, _] (fun s => OptM Try.prog 3 (mb s) (MS T now s)) hs
theorem wl_x {k : Nat} {R : Res} (hx : X[k]? = some R) : (WL m c bw now mb W T X)[2 + m + k]? = some R := by
  unfold WL
  rw [List.getElem?_append_right (by simp; omega)]
  have e : 2 + m + k - ([ArrR c 84 706 (wv now bw mb), OptM Try.prog 3 (some bw) (WV W)] ++ (List.range m).map (fun s => OptM Try.prog 3 (mb s) (MS T now s))).length = k := by simp; omega
  rw [e]; exact hx
theorem wl_app {N : List Res} : WL m c bw now mb W T X ++ N = WL m c bw now mb W T (X ++ N) := by unfold WL; rw [List.append_assoc]
theorem wl_now (H : St w0 S0 w (WL m c bw now mb W T X)) : w.cell? ⟨c, 0, none⟩ = some (.int .u64 now) := H.arr_cell 0 wl_0 (by decide)
theorem wl_when (H : St w0 S0 w (WL m c bw now mb W T X)) : w.cell? ⟨c, 1, none⟩ = some (.map (some bw)) := H.arr_cell 0 wl_0 (by decide)
theorem wl_cell (H : St w0 S0 w (WL m c bw now mb W T X)) (hs : s < 704) : w.cell? ⟨c, 2 + s, none⟩ = some (.map (mb s)) := by
  rw [H.arr_cell 0 wl_0 (show 2 + s < 706 by omega)]
  unfold wv
  rw [if_neg (by omega), if_neg (by omega)]
  congr 3; omega
theorem bits_xor (a b : Nat) (ha : a < 18446744073709551616) (hb : b < 18446744073709551616) : bits .xor .u64 (a : Int) (b : Int) = ((a ^^^ b : Nat) : Int) := by
  have ha' : a % 2 ^ IntKind.u64.bits = a := Nat.mod_eq_of_lt ha
  have hb' : b % 2 ^ IntKind.u64.bits = b := Nat.mod_eq_of_lt hb
  simp only [bits, BitVec.ofInt_natCast, BitVec.toNat_xor, BitVec.toNat_ofNat, ha', hb']
  have : a ^^^ b < 2 ^ 64 := Nat.xor_lt_two_pow ha hb
  exact IntWalk.u64_in _ ⟨by omega, by omega⟩
theorem two_eq {a b c d : Int} (h1 : a = c) (h2 : b = d) : Ending.returned (.tuple #[.int .i64 a, .int .i64 b]) = Ending.returned (.tuple #[.int .i64 c, .int .i64 d]) := by rw [h1, h2]
theorem spot_c (H : St w0 S0 w (WL m c bw now mb W T X)) (h0 : 0 ≤ now) (h1 : now < at') (h2 : at' < 4611686018427387904) :
    Calls Try.prog 44 #[.pointer (some ⟨c, 0, none⟩), .int .u64 at'] w fun e w' => ∃ s : Nat, s < 704 ∧ SpS now at' s ∧ e = .returned (.tuple #[.int .i64 ((s / 64 : Nat) : Int), .int .i64 ((s % 64 : Nat) : Int)]) ∧ St w0 S0 w' (WL m c bw now mb W T X) := by
  have c0 := wl_now H
  have HH := Lib.hid H
  obtain ⟨a, rfl⟩ := Int.eq_ofNat_of_zero_le (show 0 ≤ at' by omega)
  obtain ⟨b, rfl⟩ := Int.eq_ofNat_of_zero_le h0
  have hx := bits_xor a b (by omega) (by omega)
  have hd : 0 < a ^^^ b := Nat.pos_of_ne_zero fun h => by have := xor_zero h; omega
  have hlt : a ^^^ b < 2 ^ 62 := Nat.xor_lt_two_pow (by omega) (by omega)
  have C := Lib.hid (len64_c ((a ^^^ b : Nat) : Int) w (by omega) (by omega))
  obtain ⟨e1, e2, e3⟩ := len_spec 62 (a ^^^ b) hd hlt (by omega)
  have hso := spot_of a b (by omega) (by omega) (by omega) rfl
  rw [Int.toNat_natCast] at C
  obtain ⟨B, hB⟩ : ∃ B, Lib.bitLen (a ^^^ b) = B := ⟨_, rfl⟩
  rw [hB] at C hso e1 e2 e3
  have e4 : B ≤ 62 := by
    apply Nat.le_of_not_lt
    intro h
    have := Nat.pow_le_pow_right (show 0 < 2 by decide) (show 63 ≤ B from h)
    omega
  obtain ⟨l, hl⟩ : ∃ l, (B - 1) / 6 = l := ⟨_, rfl⟩
  rw [hl] at hso
  have hl10 := hso.2
  have HS := Lib.hid hso.1
  have f1 : (0 : Int) ≤ (B : Int) - 1 := by omega
  have f2 : (B : Int) - 1 ≤ 61 := by omega
  have f3 : ((B : Int) - 1) / 6 = (l : Int) := by omega
  have f4 : Int.tdiv ((B : Int) - 1) 6 = (l : Int) := by rw [Int.tdiv_eq_ediv_of_nonneg f1]; exact f3
  clear H hso hB e1 e2 hd hlt hl
  go_enter Try.func44, Try.ntmps44
  go_wp2_with fail
  refine C.out.mono ?_
  rintro e w' ⟨rfl, rfl⟩
  clear C hx
  obtain ⟨li, hli⟩ : ∃ li : Int, (l : Int) = li := ⟨_, rfl⟩
  rw [hli] at f3 f4
  have hc : li = 0 ∨ li = 1 ∨ li = 2 ∨ li = 3 ∨ li = 4 ∨ li = 5 ∨ li = 6 ∨ li = 7 ∨ li = 8 ∨ li = 9 ∨ li = 10 := by omega
  have HLI := Lib.hid hli
  clear hli hl10
  rcases hc with rfl | rfl | rfl | rfl | rfl | rfl | rfl | rfl | rfl | rfl | rfl
  · obtain rfl : l = 0 := by have := HLI.out; omega
    have hs := HS.out
    rw [show 2 ^ (6 * 0) = 1 from rfl] at hs
    go_wp2_with fail
    go_quiet (fail)
    go_wp2_with fail
    go_ret2
    refine ⟨0 * 64 + a / 1 % 64, by omega, ?_, ?_, HH.out.drewN _⟩
    · unfold SpS
      rw [show (0 * 64 + a / 1 % 64) / 64 = 0 by omega, show (0 * 64 + a / 1 % 64) % 64 = a / 1 % 64 by omega]
      exact hs
    · exact two_eq (by omega) (by omega)
  · obtain rfl : l = 1 := by have := HLI.out; omega
    have hs := HS.out
    rw [show 2 ^ (6 * 1) = 64 from rfl] at hs
    go_wp2_with fail
    go_quiet (fail)
    go_wp2_with fail
    go_ret2
    refine ⟨1 * 64 + a / 64 % 64, by omega, ?_, ?_, HH.out.drewN _⟩
    · unfold SpS
      rw [show (1 * 64 + a / 64 % 64) / 64 = 1 by omega, show (1 * 64 + a / 64 % 64) % 64 = a / 64 % 64 by omega]
      exact hs
    · exact two_eq (by omega) (by omega)
  · obtain rfl : l = 2 := by have := HLI.out; omega
    have hs := HS.out
    rw [show 2 ^ (6 * 2) = 4096 from rfl] at hs
    go_wp2_with fail
    go_quiet (fail)
    go_wp2_with fail
    go_ret2
    refine ⟨2 * 64 + a / 4096 % 64, by omega, ?_, ?_, HH.out.drewN _⟩
    · unfold SpS
      rw [show (2 * 64 + a / 4096 % 64) / 64 = 2 by omega, show (2 * 64 + a / 4096 % 64) % 64 = a / 4096 % 64 by omega]
      exact hs
    · exact two_eq (by omega) (by omega)
  · obtain rfl : l = 3 := by have := HLI.out; omega
    have hs := HS.out
    rw [show 2 ^ (6 * 3) = 262144 from rfl] at hs
    go_wp2_with fail
    go_quiet (fail)
    go_wp2_with fail
    go_ret2
    refine ⟨3 * 64 + a / 262144 % 64, by omega, ?_, ?_, HH.out.drewN _⟩
    · unfold SpS
      rw [show (3 * 64 + a / 262144 % 64) / 64 = 3 by omega, show (3 * 64 + a / 262144 % 64) % 64 = a / 262144 % 64 by omega]
      exact hs
    · exact two_eq (by omega) (by omega)
  · obtain rfl : l = 4 := by have := HLI.out; omega
    have hs := HS.out
    rw [show 2 ^ (6 * 4) = 16777216 from rfl] at hs
    go_wp2_with fail
    go_quiet (fail)
    go_wp2_with fail
    go_ret2
    refine ⟨4 * 64 + a / 16777216 % 64, by omega, ?_, ?_, HH.out.drewN _⟩
    · unfold SpS
      rw [show (4 * 64 + a / 16777216 % 64) / 64 = 4 by omega, show (4 * 64 + a / 16777216 % 64) % 64 = a / 16777216 % 64 by omega]
      exact hs
    · exact two_eq (by omega) (by omega)
  · obtain rfl : l = 5 := by have := HLI.out; omega
    have hs := HS.out
    rw [show 2 ^ (6 * 5) = 1073741824 from rfl] at hs
    go_wp2_with fail
    go_quiet (fail)
    go_wp2_with fail
    go_ret2
    refine ⟨5 * 64 + a / 1073741824 % 64, by omega, ?_, ?_, HH.out.drewN _⟩
    · unfold SpS
      rw [show (5 * 64 + a / 1073741824 % 64) / 64 = 5 by omega, show (5 * 64 + a / 1073741824 % 64) % 64 = a / 1073741824 % 64 by omega]
      exact hs
    · exact two_eq (by omega) (by omega)
  · obtain rfl : l = 6 := by have := HLI.out; omega
    have hs := HS.out
    rw [show 2 ^ (6 * 6) = 68719476736 from rfl] at hs
    go_wp2_with fail
    go_quiet (fail)
    go_wp2_with fail
    go_ret2
    refine ⟨6 * 64 + a / 68719476736 % 64, by omega, ?_, ?_, HH.out.drewN _⟩
    · unfold SpS
      rw [show (6 * 64 + a / 68719476736 % 64) / 64 = 6 by omega, show (6 * 64 + a / 68719476736 % 64) % 64 = a / 68719476736 % 64 by omega]
      exact hs
    · exact two_eq (by omega) (by omega)
  · obtain rfl : l = 7 := by have := HLI.out; omega
    have hs := HS.out
    rw [show 2 ^ (6 * 7) = 4398046511104 from rfl] at hs
    go_wp2_with fail
    go_quiet (fail)
    go_wp2_with fail
    go_ret2
    refine ⟨7 * 64 + a / 4398046511104 % 64, by omega, ?_, ?_, HH.out.drewN _⟩
    · unfold SpS
      rw [show (7 * 64 + a / 4398046511104 % 64) / 64 = 7 by omega, show (7 * 64 + a / 4398046511104 % 64) % 64 = a / 4398046511104 % 64 by omega]
      exact hs
    · exact two_eq (by omega) (by omega)
  · obtain rfl : l = 8 := by have := HLI.out; omega
    have hs := HS.out
    rw [show 2 ^ (6 * 8) = 281474976710656 from rfl] at hs
    go_wp2_with fail
    go_quiet (fail)
    go_wp2_with fail
    go_ret2
    refine ⟨8 * 64 + a / 281474976710656 % 64, by omega, ?_, ?_, HH.out.drewN _⟩
    · unfold SpS
      rw [show (8 * 64 + a / 281474976710656 % 64) / 64 = 8 by omega, show (8 * 64 + a / 281474976710656 % 64) % 64 = a / 281474976710656 % 64 by omega]
      exact hs
    · exact two_eq (by omega) (by omega)
  · obtain rfl : l = 9 := by have := HLI.out; omega
    have hs := HS.out
    rw [show 2 ^ (6 * 9) = 18014398509481984 from rfl] at hs
    go_wp2_with fail
    go_quiet (fail)
    go_wp2_with fail
    go_ret2
    refine ⟨9 * 64 + a / 18014398509481984 % 64, by omega, ?_, ?_, HH.out.drewN _⟩
    · unfold SpS
      rw [show (9 * 64 + a / 18014398509481984 % 64) / 64 = 9 by omega, show (9 * 64 + a / 18014398509481984 % 64) % 64 = a / 18014398509481984 % 64 by omega]
      exact hs
    · exact two_eq (by omega) (by omega)
  · obtain rfl : l = 10 := by have := HLI.out; omega
    have hs := HS.out
    rw [show 2 ^ (6 * 10) = 1152921504606846976 from rfl] at hs
    go_wp2_with fail
    go_quiet (fail)
    go_wp2_with fail
    go_ret2
    refine ⟨10 * 64 + a / 1152921504606846976 % 64, by omega, ?_, ?_, HH.out.drewN _⟩
    · unfold SpS
      rw [show (10 * 64 + a / 1152921504606846976 % 64) / 64 = 10 by omega, show (10 * 64 + a / 1152921504606846976 % 64) % 64 = a / 1152921504606846976 % 64 by omega]
      exact hs
    · exact two_eq (by omega) (by omega)
theorem or_bg (now p : Int) (l : Nat) (M K : Int) (hM : M = 64 ^ (l + 1)) (hK : K = 64 ^ l) (h0 : 0 ≤ now) (h1 : now < 4611686018427387904) (p0 : 0 ≤ p) (p1 : p < 64) (hb : bg now l p < 4611686018427387904) : bits .or .u64 (now / M * M) (p * K) = bg now l p := by
  subst hM hK
  have k0 := p64 l
  have m0 := p64 (l + 1)
  have e2 : (2 : Int) ^ (6 * (l + 1)) = 64 ^ (l + 1) := by rw [Int.pow_mul]; rfl
  have x0 : 0 ≤ now / 64 ^ (l + 1) * 64 ^ (l + 1) := Int.mul_nonneg (Int.ediv_nonneg h0 (by omega)) (by omega)
  have x1 := Int.ediv_mul_le now (b := 64 ^ (l + 1)) (by omega)
  have y0 : 0 ≤ p * 64 ^ l := Int.mul_nonneg p0 (by omega)
  have y1 : p * 64 ^ l < 64 ^ (l + 1) := by
    rw [p64s, Int.mul_comm (64 ^ l) 64]
    exact Int.mul_lt_mul_of_pos_right p1 k0
  have eb : bg now l p = now / 64 ^ (l + 1) * 64 ^ (l + 1) + p * 64 ^ l := by
    unfold bg pt
    rw [Int.add_mul, p64s, Int.mul_assoc, Int.mul_comm 64 (64 ^ l)]
  rw [bits_join .u64 62 (by decide) (fun n a b => IntWalk.u64_in n ⟨a, by have : (2 : Int) ^ 62 = 4611686018427387904 := rfl; omega⟩) (6 * (l + 1)) _ _ x0 (by rw [e2]; exact Int.mul_emod_left _ _) (by have : (2 : Int) ^ 62 = 4611686018427387904 := rfl; omega) y0 (by rw [e2]; exact y1) (by have : (2 : Int) ^ 62 = 4611686018427387904 := rfl; omega), eb]
theorem pk_le (now p : Int) (l : Nat) (K : Int) (hK : K = 64 ^ l) (h0 : 0 ≤ now) (hb : bg now l p < 4611686018427387904) : p * K < 4611686018427387904 := by
  subst hK
  have x0 : 0 ≤ pt (l + 1) now * 64 * 64 ^ l := Int.mul_nonneg (Int.mul_nonneg (pt_nn h0) (by omega)) (Int.le_of_lt (p64 l))
  unfold bg at hb
  rw [Int.add_mul] at hb
  omega
theorem begin_c (H : St w0 S0 w (WL m c bw now mb W T X)) (h0 : 0 ≤ now) (h1 : now < 4611686018427387904) (hs : s < 704) (hb : bgS now s < 4611686018427387904) :
    Calls Try.prog 37 #[.pointer (some ⟨c, 0, none⟩), .int .i64 ((s / 64 : Nat) : Int), .int .i64 ((s % 64 : Nat) : Int)] w fun e w' => e = .returned (.int .u64 (bgS now s)) ∧ St w0 S0 w' (WL m c bw now mb W T X) := by
  have c0 := wl_now H
  have HH := Lib.hid H
  unfold bgS at hb ⊢
  obtain ⟨l, hl⟩ : ∃ l, s / 64 = l := ⟨_, rfl⟩
  obtain ⟨p', hp⟩ : ∃ p, s % 64 = p := ⟨_, rfl⟩
  rw [hl, hp] at hb ⊢
  have l1 : l ≤ 10 := by omega
  obtain ⟨p, hp'⟩ : ∃ p : Int, (p' : Int) = p := ⟨_, rfl⟩
  rw [hp'] at hb ⊢
  have p0 : 0 ≤ p := by omega
  have p1 : p < 64 := by omega
  have HB := Lib.hid hb
  obtain ⟨li, hli⟩ : ∃ li : Int, (l : Int) = li := ⟨_, rfl⟩
  rw [hli]
  have hc : li = 0 ∨ li = 1 ∨ li = 2 ∨ li = 3 ∨ li = 4 ∨ li = 5 ∨ li = 6 ∨ li = 7 ∨ li = 8 ∨ li = 9 ∨ li = 10 := by omega
  have HLI := Lib.hid hli
  clear H hb hl hp hp' hli l1
  rcases hc with rfl | rfl | rfl | rfl | rfl | rfl | rfl | rfl | rfl | rfl | rfl
  · obtain rfl : l = 0 := by have := HLI.out; omega
    have ob := or_bg now p 0 64 1 rfl rfl h0 h1 p0 p1 HB.out
    have pk := pk_le now p 0 1 rfl h0 HB.out
    simp only [Int.mul_one] at ob
    go_enter Try.func37, Try.ntmps37
    go_wp2_with fail
    go_quiet (fail)
    go_wp2_with fail
    go_ret
    exact ⟨by first | rfl | exact congrArg (fun z => Ending.returned (Value.int IntKind.u64 z)) ob, HH.out.drewN _⟩
  · obtain rfl : l = 1 := by have := HLI.out; omega
    have ob := or_bg now p 1 4096 64 rfl rfl h0 h1 p0 p1 HB.out
    have pk := pk_le now p 1 64 rfl h0 HB.out
    go_enter Try.func37, Try.ntmps37
    go_wp2_with fail
    go_quiet (fail)
    go_wp2_with fail
    go_ret
    exact ⟨by first | rfl | exact congrArg (fun z => Ending.returned (Value.int IntKind.u64 z)) ob, HH.out.drewN _⟩
  · obtain rfl : l = 2 := by have := HLI.out; omega
    have ob := or_bg now p 2 262144 4096 rfl rfl h0 h1 p0 p1 HB.out
    have pk := pk_le now p 2 4096 rfl h0 HB.out
    go_enter Try.func37, Try.ntmps37
    go_wp2_with fail
    go_quiet (fail)
    go_wp2_with fail
    go_ret
    exact ⟨by first | rfl | exact congrArg (fun z => Ending.returned (Value.int IntKind.u64 z)) ob, HH.out.drewN _⟩
  · obtain rfl : l = 3 := by have := HLI.out; omega
    have ob := or_bg now p 3 16777216 262144 rfl rfl h0 h1 p0 p1 HB.out
    have pk := pk_le now p 3 262144 rfl h0 HB.out
    go_enter Try.func37, Try.ntmps37
    go_wp2_with fail
    go_quiet (fail)
    go_wp2_with fail
    go_ret
    exact ⟨by first | rfl | exact congrArg (fun z => Ending.returned (Value.int IntKind.u64 z)) ob, HH.out.drewN _⟩
  · obtain rfl : l = 4 := by have := HLI.out; omega
    have ob := or_bg now p 4 1073741824 16777216 rfl rfl h0 h1 p0 p1 HB.out
    have pk := pk_le now p 4 16777216 rfl h0 HB.out
    go_enter Try.func37, Try.ntmps37
    go_wp2_with fail
    go_quiet (fail)
    go_wp2_with fail
    go_ret
    exact ⟨by first | rfl | exact congrArg (fun z => Ending.returned (Value.int IntKind.u64 z)) ob, HH.out.drewN _⟩
  · obtain rfl : l = 5 := by have := HLI.out; omega
    have ob := or_bg now p 5 68719476736 1073741824 rfl rfl h0 h1 p0 p1 HB.out
    have pk := pk_le now p 5 1073741824 rfl h0 HB.out
    go_enter Try.func37, Try.ntmps37
    go_wp2_with fail
    go_quiet (fail)
    go_wp2_with fail
    go_ret
    exact ⟨by first | rfl | exact congrArg (fun z => Ending.returned (Value.int IntKind.u64 z)) ob, HH.out.drewN _⟩
  · obtain rfl : l = 6 := by have := HLI.out; omega
    have ob := or_bg now p 6 4398046511104 68719476736 rfl rfl h0 h1 p0 p1 HB.out
    have pk := pk_le now p 6 68719476736 rfl h0 HB.out
    go_enter Try.func37, Try.ntmps37
    go_wp2_with fail
    go_quiet (fail)
    go_wp2_with fail
    go_ret
    exact ⟨by first | rfl | exact congrArg (fun z => Ending.returned (Value.int IntKind.u64 z)) ob, HH.out.drewN _⟩
  · obtain rfl : l = 7 := by have := HLI.out; omega
    have ob := or_bg now p 7 281474976710656 4398046511104 rfl rfl h0 h1 p0 p1 HB.out
    have pk := pk_le now p 7 4398046511104 rfl h0 HB.out
    go_enter Try.func37, Try.ntmps37
    go_wp2_with fail
    go_quiet (fail)
    go_wp2_with fail
    go_ret
    exact ⟨by first | rfl | exact congrArg (fun z => Ending.returned (Value.int IntKind.u64 z)) ob, HH.out.drewN _⟩
  · obtain rfl : l = 8 := by have := HLI.out; omega
    have ob := or_bg now p 8 18014398509481984 281474976710656 rfl rfl h0 h1 p0 p1 HB.out
    have pk := pk_le now p 8 281474976710656 rfl h0 HB.out
    go_enter Try.func37, Try.ntmps37
    go_wp2_with fail
    go_quiet (fail)
    go_wp2_with fail
    go_ret
    exact ⟨by first | rfl | exact congrArg (fun z => Ending.returned (Value.int IntKind.u64 z)) ob, HH.out.drewN _⟩
  · obtain rfl : l = 9 := by have := HLI.out; omega
    have ob := or_bg now p 9 1152921504606846976 18014398509481984 rfl rfl h0 h1 p0 p1 HB.out
    have pk := pk_le now p 9 18014398509481984 rfl h0 HB.out
    go_enter Try.func37, Try.ntmps37
    go_wp2_with fail
    go_quiet (fail)
    go_wp2_with fail
    go_ret
    exact ⟨by first | rfl | exact congrArg (fun z => Ending.returned (Value.int IntKind.u64 z)) ob, HH.out.drewN _⟩
  · obtain rfl : l = 10 := by have := HLI.out; omega
    have ob := or_bg now p 10 73786976294838206464 1152921504606846976 rfl rfl h0 h1 p0 p1 HB.out
    have pk := pk_le now p 10 1152921504606846976 rfl h0 HB.out
    go_enter Try.func37, Try.ntmps37
    go_wp2_with fail
    go_quiet (fail)
    go_wp2_with fail
    go_ret
    rw [Int.ediv_eq_zero_of_lt h0 (by omega), Int.zero_mul] at ob
    refine ⟨?_, HH.out.drewN _⟩
    rw [Int.ediv_eq_zero_of_lt h0 (show now < 18446744073709551616 by omega), Int.zero_mul]
    exact congrArg (fun z => Ending.returned (Value.int IntKind.u64 z)) ob
end
end Go.Proofs.Ythdhfjcgboglfaa
