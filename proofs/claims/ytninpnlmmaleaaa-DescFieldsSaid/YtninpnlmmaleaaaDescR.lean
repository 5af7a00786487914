/- Layer 9: bytes read, the program's. -/
import Derived.Test.YtninpnlmmaleaaaDescB
import Derived.Lib.Strings
import Derived.Lib.Slices
import Derived.Lib.Walk
import Derived.Lib.Bytes
namespace Go.Proofs.Ytninpnlmmaleaaa
open Go.RowKit
set_option linter.unusedVariables false
set_option maxRecDepth 100000
set_option maxHeartbeats 1000000
theorem i64_or_nat (a b : Nat) (ha : a < 1099511627776) (hb : b < 1099511627776) : bits .or .i64 (a : Int) (b : Int) = ((a ||| b : Nat) : Int) := by
  have hx : a ||| b < 2 ^ 40 := Nat.or_lt_two_pow (by omega) (by omega)
  show IntKind.i64.wrap ((BitVec.ofInt 64 (a : Int) ||| BitVec.ofInt 64 (b : Int)).toNat : Int) = _
  have e1 : (BitVec.ofInt 64 (a : Int)).toNat = a := by rw [BitVec.ofInt_natCast, BitVec.toNat_ofNat]; exact Nat.mod_eq_of_lt (by omega)
  have e2 : (BitVec.ofInt 64 (b : Int)).toNat = b := by rw [BitVec.ofInt_natCast, BitVec.toNat_ofNat]; exact Nat.mod_eq_of_lt (by omega)
  rw [BitVec.toNat_or, e1, e2, IntWalk.i64_in _ ⟨by omega, by omega⟩]
theorem i64_and_nat (a b : Nat) (ha : a < 1099511627776) (hb : b < 1099511627776) : bits .and .i64 (a : Int) (b : Int) = ((a &&& b : Nat) : Int) := by
  have hx : a &&& b < 2 ^ 40 := Nat.and_lt_two_pow _ (by omega)
  show IntKind.i64.wrap ((BitVec.ofInt 64 (a : Int) &&& BitVec.ofInt 64 (b : Int)).toNat : Int) = _
  have e1 : (BitVec.ofInt 64 (a : Int)).toNat = a := by rw [BitVec.ofInt_natCast, BitVec.toNat_ofNat]; exact Nat.mod_eq_of_lt (by omega)
  have e2 : (BitVec.ofInt 64 (b : Int)).toNat = b := by rw [BitVec.ofInt_natCast, BitVec.toNat_ofNat]; exact Nat.mod_eq_of_lt (by omega)
  rw [BitVec.toNat_and, e1, e2, IntWalk.i64_in _ ⟨by omega, by omega⟩]
/-- A byte more behind a number. -/
theorem join8 (n c : Int) (hn : 0 ≤ n ∧ n < 16777216) (hc : 0 ≤ c ∧ c < 256) : bits .or .i64 (n * 256) c = n * 256 + c := by
  obtain ⟨a, rfl⟩ := Int.eq_ofNat_of_zero_le hn.1
  obtain ⟨b, rfl⟩ := Int.eq_ofNat_of_zero_le hc.1
  have := i64_or_nat (a * 256) b (by omega) (by omega)
  rw [show ((a : Int) * 256) = ((a * 256 : Nat) : Int) by omega, this, nat_join 8 _ _ (by omega) (by omega)]
  omega
theorem and_marks : ∀ n : Fin 256, (bits .and .i64 (n.1 : Int) 16 != 0) = decide ((n.1 : Int) / 16 % 2 = 1) ∧ (bits .and .i64 (n.1 : Int) 32 != 0) = decide ((n.1 : Int) / 32 % 2 = 1) := by decide +kernel
theorem and_marks' {x : Int} (h : 0 ≤ x ∧ x < 256) : (bits .and .i64 x 16 != 0) = decide (x / 16 % 2 = 1) ∧ (bits .and .i64 x 32 != 0) = decide (x / 32 % 2 = 1) := by
  obtain ⟨a, rfl⟩ := Int.eq_ofNat_of_zero_le h.1
  exact and_marks ⟨a, by omega⟩
def numAt (f : Nat → Int) (at' : Nat) : Nat → Int
  | 0 => 0
  | z + 1 => numAt f at' z * 256 + f (at' + z)
def numsAt (f : Nat → Int) : Nat → List Nat → List Int
  | _, [] => []
  | a, z :: l => numAt f a z :: numsAt f (a + z) l
def sumL : List Nat → Nat
  | [] => 0
  | z :: l => z + sumL l
theorem numAt_bd {f : Nat → Int} {a : Nat} : ∀ {z : Nat}, (∀ j, j < a + z → 0 ≤ f j ∧ f j < 256) → 0 ≤ numAt f a z ∧ numAt f a z < 256 ^ z
  | 0, _ => by simp [numAt]
  | z + 1, h => by
    have h1 := numAt_bd (f := f) (a := a) (z := z) fun j hj => h j (by omega)
    have h2 := h (a + z) (by omega)
    have h3 : (256 : Int) ^ (z + 1) = 256 ^ z * 256 := Int.pow_succ _ _
    show 0 ≤ numAt f a z * 256 + f (a + z) ∧ numAt f a z * 256 + f (a + z) < 256 ^ (z + 1)
    rw [h3]
    generalize (256 : Int) ^ z = p at *
    generalize numAt f a z = x at *
    omega
def i64s (xs : List Int) : List Value := xs.map (Value.int .i64)
theorem i64s_len (xs : List Int) : (i64s xs).length = xs.length := by simp [i64s]
theorem i64s_snoc (xs : List Int) (x : Int) : i64s (xs ++ [x]) = i64s xs ++ [.int .i64 x] := by simp [i64s]
theorem i64s_one (xs : List Int) : ∀ u ∈ i64s xs, u.oneCell' = true := by
  intro u hu
  obtain ⟨x, _, rfl⟩ := List.mem_map.1 hu
  rfl
theorem Try.infoI : (Try.prog.info? 3).map (fun i => (i.zero, i.size, i.bytes)) = some (some (.int .i64 0), 1, 8) := by kernel_rfl
def zcs (ss : List Nat) : List Value := ss.map fun (z : Nat) => Value.int .i64 (z : Int)
/-- The same bytes? -/
theorem equal_conv (v1 v2 : Value) (xs ys : List Int) (w : World)
    (h1 : (convert 28 9 v1).run Try.prog w = .ok (.string (strOfNums xs)) w) (h2 : (convert 28 9 v2).run Try.prog w = .ok (.string (strOfNums ys)) w) (b : Bool) (hb : b = (Lib.bytesOf xs == Lib.bytesOf ys)) :
    Calls Try.prog 24 #[v1, v2] w fun e w' => e = .returned (.bool b) ∧ w = w' := by
  rw [hb, ← Lib.strOfNums_toList, ← Lib.strOfNums_toList]
  clear hb
  go_enter Try.func24, Try.ntmps24
  go_wp2
  go_ret
  exact ⟨rfl, rfl⟩
theorem u8_inj {x y : Int} (hx : 0 ≤ x ∧ x < 256) (hy : 0 ≤ y ∧ y < 256) (h : UInt8.ofNat x.toNat = UInt8.ofNat y.toNat) : x = y := by
  have := congrArg UInt8.toNat h
  rw [UInt8.toNat_ofNat', UInt8.toNat_ofNat', Nat.mod_eq_of_lt (by omega), Nat.mod_eq_of_lt (by omega)] at this
  omega
theorem bytesOf_inj : ∀ {xs ys : List Int}, (∀ x ∈ xs, 0 ≤ x ∧ x < 256) → (∀ x ∈ ys, 0 ≤ x ∧ x < 256) → Lib.bytesOf xs = Lib.bytesOf ys → xs = ys
  | [], [], _, _, _ => rfl
  | [], _ :: _, _, _, h => by simp [Lib.bytesOf] at h
  | _ :: _, [], _, _, h => by simp [Lib.bytesOf] at h
  | x :: xs, y :: ys, hx, hy, h => by
    simp only [Lib.bytesOf, List.map_cons, List.cons.injEq] at h
    rw [u8_inj (hx x (by simp)) (hy y (by simp)) h.1, bytesOf_inj (fun x h => hx x (by simp [h])) (fun x h => hy x (by simp [h])) h.2]
theorem bytesOf_beq {xs ys : List Int} (hx : ∀ x ∈ xs, 0 ≤ x ∧ x < 256) (hy : ∀ x ∈ ys, 0 ≤ x ∧ x < 256) : (Lib.bytesOf xs == Lib.bytesOf ys) = decide (xs = ys) := by
  by_cases h : xs = ys
  · subst h; simp
  · rw [decide_eq_false h]
    exact beq_eq_false_iff_ne.2 fun e => h (bytesOf_inj hx hy e)
section
variable {w0 w : World} {S0 : Nat → Prop} {L : List Res}
theorem equal_c {A B : Option Addr} {n cap cap2 : Nat} {f g : Nat → Int} (rd : Rd w A n (fun j => .int .u8 (f j))) (rd2 : Rd w B n (fun j => .int .u8 (g j))) (h0 : 0 < n) (hf : ∀ j, j < n → 0 ≤ f j ∧ f j < 256) (hg : ∀ j, j < n → 0 ≤ g j ∧ g j < 256) (b : Bool) (hb : b = decide (∀ j, j < n → f j = g j)) :
    Calls Try.prog 24 #[.slice A n cap, .slice B n cap2] w fun e w' => e = .returned (.bool b) ∧ w = w' := by
  obtain ⟨b1, o1, rfl, _, hc1⟩ := rd h0
  obtain ⟨b2, o2, rfl, _, hc2⟩ := rd2 h0
  have g1 := run_convert_bytes_arg (P := Try.prog) w 28 5 Try.underlying28 Try.underlying5 b1 o1 n cap ((List.range n).map f) (by simp) (fun i hi => by rw [hc1 i hi]; simp [List.getD, hi]) 9 Try.underlying9
  have g2 := run_convert_bytes_arg (P := Try.prog) w 28 5 Try.underlying28 Try.underlying5 b2 o2 n cap2 ((List.range n).map g) (by simp) (fun i hi => by rw [hc2 i hi]; simp [List.getD, hi]) 9 Try.underlying9
  refine equal_conv _ _ _ _ w g1 g2 b ?_
  rw [bytesOf_beq (by simpa using hf) (by simpa using hg), hb]
  simp
theorem equal_nil {A : Option Addr} {n cap : Nat} {f : Nat → Int} (rd : Rd w A n (fun j => .int .u8 (f j))) (h0 : 0 < n) :
    Calls Try.prog 24 #[.slice A n cap, .slice none 0 0] w fun e w' => e = .returned (.bool false) ∧ w = w' := by
  obtain ⟨b1, o1, rfl, _, hc1⟩ := rd h0
  have g1 := run_convert_bytes_arg (P := Try.prog) w 28 5 Try.underlying28 Try.underlying5 b1 o1 n cap ((List.range n).map f) (by simp) (fun i hi => by rw [hc1 i hi]; simp [List.getD, hi]) 9 Try.underlying9
  have g2 := run_convert_bytes_nil (P := Try.prog) (w := w) 28 5 Try.underlying28 Try.underlying5 0 0 9 Try.underlying9
  refine equal_conv _ _ _ [] w g1 g2 false ?_
  cases n with
  | zero => omega
  | succ n => simp [Lib.bytesOf, List.range_succ]
theorem read_c {A : Option Addr} {cap g : Nat} {f : Nat → Int} (ss : List Nat) (hss : ∀ z ∈ ss, 1 ≤ z ∧ z ≤ 4) (hsum : sumL ss ≤ 20) (m : Nat) (hm : ss.length = m) (hm8 : m ≤ 20) (rd : Rd w0 A 20 (fun j => .int .u8 (f j))) (hf : ∀ j, j < 20 → 0 ≤ f j ∧ f j < 256) (hcap : 20 ≤ cap ∧ cap ≤ maxLen) {X : Res} (c : Nat)
    (H : St w0 None w [X, BlkR g 3 (zcs ss).toArray]) :
    Calls Try.prog 23 #[.slice A 20 cap, .slice (some ⟨g, 0, none⟩) m c] w fun e w' => ∃ B cap', e = .returned (.slice B m cap') ∧ St w0 None w' [X, BlkR g 3 (zcs ss).toArray, LisR 3 1 (.slice B m cap') m (i64s (numsAt f 0 ss))] := by
  obtain ⟨i0, hi, hz0, hz1, hz2⟩ := info_parts Try.infoI
  unfold maxLen at hcap
  have HT : ∃ T, T = numsAt f 0 ss := ⟨_, rfl⟩
  obtain ⟨T, hT⟩ := HT
  rw [← hT]
  obtain ⟨ab, ao, rfl, hab, hac⟩ := rd (by omega)
  have HAC := Lib.hid hac
  clear hac rd
  go_enter Try.func23, Try.ntmps23
  go_wp2_with fail
  have s1 : St w0 None w [X, BlkR g 3 (zcs ss).toArray, LisR 3 1 (.slice none 0 0) 0 (i64s [])] := H.lis_nil 3 1
  clear H
  go_loopw [5, 6, 14] (fun ns a k wr => ∃ (q a' : Nat) (ys : List Int) (B : Option Addr) (c : Nat), q ≤ m ∧ k = .int .i64 q ∧ a = .int .i64 a' ∧ ns = .slice B q c ∧ ys.length = q ∧ a' + sumL (ss.drop q) ≤ 20 ∧ ys ++ numsAt f a' (ss.drop q) = T ∧ St w0 None wr [X, BlkR g 3 (zcs ss).toArray, LisR 3 1 (.slice B q c) q (i64s ys)]) (fun _ _ k _ => m - (intOf k).toNat)
  case atStart => exact ⟨0, 0, [], none, 0, by omega, rfl, rfl, rfl, rfl, by simpa using hsum, by simp [hT], s1⟩
  case round =>
    clear s1 hsum
    obtain ⟨q, a', ys, B, c, hq, rfl, rfl, rfl, hyl, hsum, hys, sr⟩ := hrel
    by_cases hlt : q < m
    · obtain ⟨z, hz⟩ : ∃ z, ss[q]? = some z := ⟨_, List.getElem?_eq_getElem (by omega)⟩
      have hzb := hss z (List.mem_of_getElem? hz)
      have c0 := ((sr.blk 1 rfl).cell q).trans (show (zcs ss).toArray[q]? = some (.int .i64 (z : Int)) by simp [zcs, hz])
      have hd : ss.drop q = z :: ss.drop (q + 1) := by
        obtain ⟨h1, h2⟩ := List.getElem?_eq_some_iff.1 hz
        rw [← h2, List.drop_eq_getElem_cons h1]
      rw [hd] at hys hsum
      have HYS := Lib.hid (show (ys ++ [numAt f a' z]) ++ numsAt f (a' + z) (ss.drop (q + 1)) = T by rw [← hys]; simp [numsAt])
      have hsum2 : a' + z + sumL (ss.drop (q + 1)) ≤ 20 := by simp [sumL] at hsum; omega
      clear hys hz hT hd hsum hss
      have hne : ¬ cap = a' := by omega
      go_wp2_with fail
      clear c0
      go_loopw [9, 25] (fun n i wr => ∃ j : Nat, j ≤ z ∧ i = .int .i64 j ∧ n = .int .i64 (numAt f a' j) ∧ St w0 None wr [X, BlkR g 3 (zcs ss).toArray, LisR 3 1 (.slice B q c) q (i64s ys)]) (fun _ i _ => z - (intOf i).toNat)
      case atStart => exact ⟨0, by omega, rfl, rfl, sr⟩
      case round =>
        clear sr
        obtain ⟨j, hj, rfl, rfl, sr⟩ := hrel
        by_cases hl2 : j < z
        · have cj : wr.cell? ⟨ab, ao + (a' + j), none⟩ = some (.int .u8 (f (a' + j))) := (sr.cell (p := ⟨ab, ao + (a' + j), none⟩) hab id).trans (HAC.out (a' + j) (by omega))
          rw [← Nat.add_assoc] at cj
          have hfj := hf (a' + j) (by omega)
          have hb := numAt_bd (f := f) (a := a') (z := j) fun j hj => hf j (by omega)
          have hb2 : numAt f a' j < 16777216 := by
            rcases (show j = 0 ∨ j = 1 ∨ j = 2 ∨ j = 3 by omega) with rfl | rfl | rfl | rfl <;> omega
          have HE := Lib.hid (show numAt f a' (j + 1) = numAt f a' j * 256 + f (a' + j) from rfl)
          generalize numAt f a' j = y at *
          generalize f (a' + j) = x at *
          have hjn := join8 y x ⟨hb.1, hb2⟩ hfj
          go_wp2_with fail
          exact ⟨⟨j + 1, by omega, by go_num, by rw [HE.out], sr⟩, by simp [intOf]; omega⟩
        · obtain rfl : j = z := by omega
          obtain ⟨y, hy⟩ : ∃ y, numAt f a' j = y := ⟨_, rfl⟩
          rw [hy] at HYS ⊢
          clear hy
          have s3 := sr.alloc (.cells #[.int .i64 y] 3)
          have hl3 := s3.lis 2 rfl
          have hr3 := rds_box wr 3 (.int .i64 y)
          go_wp2_with (at_builtin; refine wpList_lis rfl (.tmp 35) (.tmp 37) 43 rfl 3 i0 (.int .i64 0) 1 8 Try.underlying43 hi hz0 hz1 hz2 rfl (by decide) _ _ _ rfl hl3 (some ⟨wr.heap.size, 0, none⟩) 1 1 [.int .i64 y] rfl hr3 (by simp [Value.oneCell']) (by unfold maxLen; omega) (by omega) ?_; intro B4 cap4 w4 hl4 hg4 hat4)
          go_roundw
          case rel => exact ⟨q + 1, a' + j, ys ++ [y], B4, cap4, by omega, by go_num, by go_num, rfl, by simp [hyl], hsum2, HYS.out, by have s4 := s3.lis_put 2 rfl hl4 hg4 hat4; rw [← i64s_snoc] at s4; exact s4⟩
          case measure => simp [intOf]; omega
    · obtain rfl : q = m := by omega
      rw [List.drop_eq_nil_of_le (by omega)] at hys
      obtain rfl : ys = T := by simpa [numsAt] using hys
      go_wp2_with fail
      go_ret
      exact ⟨B, c, rfl, sr⟩
end
end Go.Proofs.Ytninpnlmmaleaaa
