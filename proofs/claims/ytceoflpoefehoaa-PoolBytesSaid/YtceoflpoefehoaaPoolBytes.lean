/-
  For every place and all rows of bytes PoolBytes answers true, and changes nothing: what is written is what is read, the bytes about it stay, what is read is a copy, and the other buffer stays. No condition.
-/
import Derived.Test.YtceoflpoefehoaaRows
import Derived.Test.YtceoflpoefehoaaFr
import Derived.Test.YtceoflpoefehoaaPool2
import Derived.Test.YtceoflpoefehoaaOpen
namespace Go.Proofs.Ytceoflpoefehoaa.poolBytes
open Go.ChangeShapes Go.WideShapes Go.ChangeAt Go.RowKit
set_option linter.unusedVariables false
theorem own : ownKnob Try.prog.godebug = none := by kernel_rfl
theorem laid : laidOutB Try.prog = true := by kernel_rfl
set_option maxRecDepth 100000
set_option maxHeartbeats 1000000
def zs : List Int := List.replicate 3000 0
theorem zs_len : zs.length = 3000 := by unfold zs; exact List.length_replicate
def zb : Buf := ⟨1, 0, 0, zs⟩
def gb (xs : List Int) : Buf := ⟨1, 1, 1, xs⟩
theorem got_zb : got zb = gb zs := by
  show (⟨1, 1, 1, List.replicate zs.length 0⟩ : Buf) = ⟨1, 1, 1, zs⟩
  rw [zs_len]; rfl
theorem zb_ok : zb.ok 1000 := ⟨by unfold zb; dsimp only; omega, by unfold zb; dsimp only; omega, by unfold zb; dsimp only; omega, by show zs.length ≤ 65536; rw [zs_len]; omega⟩
theorem gb_ok {xs : List Int} (h : xs.length = 3000) : (gb xs).ok 1000 := ⟨by unfold gb; dsimp only; omega, by unfold gb; dsimp only; omega, by unfold gb; dsimp only; omega, by show xs.length ≤ 65536; omega⟩
theorem gb_ne (xs : List Int) : (gb xs).owner ≠ 0 := by show (1 : Int) ≠ 0; omega
theorem who1 : who 1 := by unfold who; omega
/-- What the buffer holds then. -/
def put (k : Nat) (xs : List Int) : List Int := zs.take k ++ (xs ++ zs.drop (k + xs.length))
theorem put_len {k : Nat} {xs : List Int} (h : k + xs.length ≤ 3000) : (put k xs).length = 3000 := by
  simp only [put, List.length_append, List.length_take, List.length_drop, zs_len]; omega
theorem put_drop {k : Nat} {xs : List Int} (h : k + xs.length ≤ 3000) : (put k xs).drop k = xs ++ zs.drop (k + xs.length) := by
  unfold put
  exact List.drop_left' (by rw [List.length_take, zs_len]; omega)
theorem put_mid {k : Nat} {xs : List Int} (h : k + xs.length ≤ 3000) : ((put k xs).drop k).take xs.length = xs := by
  rw [put_drop h]; exact List.take_left' rfl
theorem put_low {k : Nat} {xs : List Int} (h : k + xs.length ≤ 3000) : ((put k xs).drop 0).take k = List.replicate k 0 := by
  rw [List.drop_zero]
  unfold put
  rw [List.take_left' (by rw [List.length_take, zs_len]; omega)]
  unfold zs
  rw [List.take_replicate, Nat.min_eq_left (by omega)]
theorem put_high {k : Nat} {xs : List Int} (h : k + xs.length ≤ 3000) : ((put k xs).drop (k + xs.length)).take (3000 - k - xs.length) = List.replicate (3000 - k - xs.length) 0 := by
  rw [← List.drop_drop, put_drop h, List.drop_left' rfl]
  unfold zs
  rw [List.drop_replicate, List.take_replicate]
  congr 1
  omega
theorem zs_all : (zs.drop 0).take 3000 = List.replicate 3000 0 := by
  rw [List.drop_zero, List.take_of_length_le (by rw [zs_len]; omega)]; rfl
theorem walk (t : Int) (A A2 : Option Addr) (n cap n2 cap2 : Nat) (f f2 : Nat → Int) (w : World) (ht : -9223372036854775808 ≤ t ∧ t ≤ 9223372036854775807) (hm : n ≤ maxLen) (hm2 : n2 ≤ maxLen) (rd : Rd w A n (fun j => .int .u8 (f j))) (rd2 : Rd w A2 n2 (fun j => .int .u8 (f2 j))) :
    Calls Try.prog 4 #[.int .i64 t, .slice A n cap, .slice A2 n2 cap2] w fun r w' => r = .returned (.bool true) ∧ Below w.heap.size w w' := by
  unfold maxLen at hm hm2
  by_cases hn : 2000 < n
  · have d1 : decide (2000 < (n : Int)) = true := decide_eq_true (by omega)
    go_enter Try.func4, Try.ntmps4
    go_wp2_with fail
    refine (awake_o (St.begin w)).mono ?_
    rintro e w1 ⟨rfl, s1⟩
    go_wp2_with fail
    go_ret
    exact ⟨rfl, s1.below⟩
  have d1 : decide (2000 < (n : Int)) = false := decide_eq_false (by omega)
  by_cases hn2 : 2000 < n2
  · have d2 : decide (2000 < (n2 : Int)) = true := decide_eq_true (by omega)
    go_enter Try.func4, Try.ntmps4
    go_wp2_with fail
    refine (awake_o (St.begin w)).mono ?_
    rintro e w1 ⟨rfl, s1⟩
    go_wp2_with fail
    go_ret
    exact ⟨rfl, s1.below⟩
  have d2 : decide (2000 < (n2 : Int)) = false := decide_eq_false (by omega)
  obtain ⟨i0, hi0, hz0, hz1, hz2⟩ := info_parts Try.infoU8
  have XS := Lib.hid (show ∃ xs : List Int, n = xs.length ∧ (∀ j, j < n → xs.getD j 0 = f j) ∧ ∀ w', Below w.heap.size w w' → Rds w' A n 1 (bys xs) from ⟨(List.range n).map f, by simp, fun j hj => map_get hj, fun w' hb => rds_of_rd (rd.below hb (Nat.le_refl _))⟩)
  have YS := Lib.hid (show ∃ xs : List Int, n2 = xs.length ∧ (∀ j, j < n2 → xs.getD j 0 = f2 j) ∧ ∀ w', Below w.heap.size w w' → Rds w' A2 n2 1 (bys xs) from ⟨(List.range n2).map f2, by simp, fun j hj => map_get hj, fun w' hb => rds_of_rd (rd2.below hb (Nat.le_refl _))⟩)
  have RD := Lib.hid rd
  have RD2 := Lib.hid rd2
  clear rd rd2
  go_enter Try.func4, Try.ntmps4
  go_wp2_with fail
  refine (awake_o (St.begin w)).mono ?_
  rintro e w1 ⟨rfl, s1⟩
  go_wp2_with fail
  have s2 : St w None _ [_] := s1.box 51 #[.int .i64 (3000 : Nat), .int .i64 2]
  have NW := Lib.hid (new_2 3000 (by omega) s2 (s2.blk 0 rfl))
  clear s1 s2
  go_wp2_with fail
  refine NW.out.mono ?_
  rintro e w2 ⟨p, rfl, s3'⟩
  have s3 : St w None w2 [_, PoolR p 2 (two zb zb)] := s3'
  clear s3' NW
  have G1 := (get_20 s3 1 rfl zb_ok zb_ok rfl (z := 1) ⟨by omega, by show 1 ≤ ((zs.length : Nat) : Int); rw [zs_len]; omega⟩ (by show 1 ≤ ((zs.length : Nat) : Int); rw [zs_len]; omega))
  clear s3
  rw [show zb.gen = 1 from rfl] at G1
  replace G1 := Lib.hid G1
  go_wp2_with fail
  refine G1.out.mono ?_
  rintro e w3 ⟨rfl, s4'⟩
  rw [got_zb] at s4'
  have s4 : St w None _ [_, PoolR p 2 (two (gb zs) zb), BlkR w3.heap.size 34 #[.int .i64 0, .int .u64 1]] := s4'.box 34 #[.int .i64 0, .int .u64 1]
  clear s4' G1
  have G2 := (get_21 s4 1 rfl (gb_ok zs_len) zb_ok (gb_ne _) rfl (z := 1) ⟨by omega, by show 1 ≤ ((zs.length : Nat) : Int); rw [zs_len]; omega⟩)
  clear s4
  rw [show zb.gen = 1 from rfl] at G2
  replace G2 := Lib.hid G2
  go_wp2_with fail
  refine G2.out.mono ?_
  rintro e w5 ⟨rfl, s6'⟩
  rw [got_zb] at s6'
  generalize w3.heap.size = g at *
  have s6 : St w None _ [_, PoolR p 2 (two (gb zs) (gb zs)), BlkR g 34 #[.int .i64 0, .int .u64 1], BlkR w5.heap.size 34 #[.int .i64 1, .int .u64 1]] := s6'.box 34 #[.int .i64 1, .int .u64 1]
  clear s6' G2
  generalize w1.heap.size = cl at *
  obtain ⟨c0, c1⟩ := (s6.blk 2 rfl).two
  obtain ⟨xs, rfl, hx, hxr⟩ := XS.out
  have HX := Lib.hid (show xs.length ≤ maxLen ∧ Rds _ A xs.length 1 (bys xs) from ⟨by unfold maxLen; omega, hxr _ s6.below⟩)
  clear hxr XS
  rcases (show t < 0 ∨ (0 ≤ t ∧ 3000 < t) ∨ (0 ≤ t ∧ t ≤ 3000 ∧ 3000 - t < (xs.length : Int)) ∨ (0 ≤ t ∧ t ≤ 3000 ∧ (xs.length : Int) ≤ 3000 - t) by omega) with h | h | h | h
  case' inl => have e3 : decide ((0 : Int) ≤ t) = false := decide_eq_false (by omega)
  case' inr.inl => have e3 : decide ((0 : Int) ≤ t) = true := decide_eq_true (by omega); have e4 : decide (t ≤ 3000) = false := decide_eq_false (by omega)
  case' inr.inr.inl => have e3 : decide ((0 : Int) ≤ t) = true := decide_eq_true (by omega); have e4 : decide (t ≤ 3000) = true := decide_eq_true (by omega); have e5 : decide ((xs.length : Int) ≤ 3000 - t) = false := decide_eq_false (by omega)
  case inl | inr.inl | inr.inr.inl =>
    have WR := Lib.hid (write_20 s6 1 rfl (gb_ok zs_len) (gb_ok zs_len) (gb_ne _) (by' := 1) (at' := t) (A := A) (cp := cap) (Or.inr (Or.inr (Or.inl ⟨who1, rfl, fun h' => by
      have h2 : fits zs.length t xs.length := h'
      rw [zs_len] at h2
      unfold fits at h2
      omega, rfl, rfl⟩))) HX.out.1 HX.out.2)
    go_wp2_with fail
    refine WR.out.mono ?_
    rintro e w7 ⟨rfl, s7'⟩
    have s7 : St w None w7 [BlkR cl 51 #[.int .i64 (3000 : Nat), .int .i64 2], PoolR p 2 (two (gb zs) (gb zs)), BlkR g 34 #[.int .i64 0, .int .u64 1], BlkR w5.heap.size 34 #[.int .i64 1, .int .u64 1]] := s7'
    clear s7' WR s6 c0 c1
    obtain ⟨c0, c1⟩ := (s7.blk 2 rfl).two
    have R0 := read_20 s7 1 rfl (gb_ok zs_len) (gb_ok zs_len) (gb_ne _) (at' := 0) (m := 3000) (xs := List.replicate 3000 0) (c := 0) (Or.inr ⟨by show fits zs.length 0 3000; rw [zs_len]; unfold fits; omega, rfl, zs_all.symm⟩)
    rw [List.length_replicate] at R0
    replace R0 := Lib.hid R0
    clear s7
    go_wp2_with fail
    refine R0.out.mono ?_
    rintro e w8 ⟨B, cp, rfl, s8'⟩
    have s8 : St w None w8 [BlkR cl 51 #[.int .i64 (3000 : Nat), .int .i64 2], PoolR p 2 (two (gb zs) (gb zs)), BlkR g 34 #[.int .i64 0, .int .u64 1], BlkR w5.heap.size 34 #[.int .i64 1, .int .u64 1], LisR 5 1 (.slice B 3000 cp) 3000 (bys (List.replicate 3000 0))] := s8'
    clear s8' R0 c0 c1
    replace s8 := Lib.hid s8
    go_wp2_with fail
    obtain ⟨w9, hrun, hown, hgrow⟩ := run_make_full (P := Try.prog) w8 w8.heap.size 35 5 i0 (.int .u8 0) 1 Try.underlying35 hi0 hz0 hz1 .i64 .i64 3000 (by rw [hz2]; omega) (by unfold maxLen; omega) (Nat.le_refl _)
    have ZS := Lib.hid (zero_same (s8.out.make rfl hown hgrow) 4 rfl (by unfold maxLen; omega))
    have hr2 : Sem.run Try.prog (Instr.makeSlice 35 (.int .i64 3000) (.int .i64 3000)) w8 = .ok (.slice (some ⟨w8.heap.size, 0, none⟩) 3000 3000) w9 := hrun
    rw [hr2]
    clear hrun hr2 hown hgrow
    go_wp2_with fail
    refine ZS.out.mono ?_
    rintro e w10 ⟨rfl, s10⟩
    go_wp2_with fail
    go_ret
    exact ⟨rfl, s10.below⟩
  · obtain ⟨k, rfl⟩ := Int.eq_ofNat_of_zero_le h.1
    have hk : k + xs.length ≤ 3000 := by omega
    obtain ⟨M, hM⟩ : ∃ M, 3000 - k - xs.length = M := ⟨_, rfl⟩
    have e3 : decide ((0 : Int) ≤ (k : Int)) = true := decide_eq_true (by omega)
    have e4 : decide ((k : Int) ≤ 3000) = true := decide_eq_true (by omega)
    have e5 : decide ((xs.length : Int) ≤ 3000 - (k : Int)) = true := decide_eq_true (by omega)
    have pl := put_len hk
    have pk : (gb (put k xs)).ok 1000 := gb_ok pl
    have WR := Lib.hid (write_20 (a' := gb (put k xs)) s6 1 rfl (gb_ok zs_len) (gb_ok zs_len) (gb_ne _) (by' := 1) (at' := (k : Int)) (A := A) (cp := cap) (c := 0) (Or.inr (Or.inr (Or.inr ⟨who1, rfl, by show fits zs.length k xs.length; rw [zs_len]; unfold fits; omega, rfl, rfl⟩))) HX.out.1 HX.out.2)
    have HK := Lib.hid (show k + xs.length ≤ 3000 ∧ (put k xs).length = 3000 ∧ 3000 - k - xs.length = M from ⟨hk, pl, hM⟩)
    clear hM pl
    go_wp2_with fail
    refine WR.out.mono ?_
    rintro e w7 ⟨rfl, s7'⟩
    have s7 : St w None w7 [BlkR cl 51 #[.int .i64 (3000 : Nat), .int .i64 2], PoolR p 2 (two (gb (put k xs)) (gb zs)), BlkR g 34 #[.int .i64 0, .int .u64 1], BlkR w5.heap.size 34 #[.int .i64 1, .int .u64 1]] := s7'
    clear s7' WR s6 c0 c1 HX
    generalize w5.heap.size = g2 at *
    obtain ⟨c0, c1⟩ := (s7.blk 2 rfl).two
    have R1 := Lib.hid (read_20 s7 1 rfl pk (gb_ok zs_len) (gb_ne _) (at' := (k : Int)) (m := (xs.length : Int)) (xs := xs) (c := 0) (Or.inr ⟨by show fits (put k xs).length k xs.length; rw [HK.out.2.1]; unfold fits; omega, rfl, (put_mid hk).symm⟩))
    clear s7
    go_wp2_with fail
    refine R1.out.mono ?_
    rintro e w8 ⟨B1, cp1, rfl, s8'⟩
    have s8 : St w None w8 [BlkR cl 51 #[.int .i64 (3000 : Nat), .int .i64 2], PoolR p 2 (two (gb (put k xs)) (gb zs)), BlkR g 34 #[.int .i64 0, .int .u64 1], BlkR g2 34 #[.int .i64 1, .int .u64 1], LisR 5 1 (.slice B1 xs.length cp1) xs.length (bys xs)] := s8'
    clear s8' R1 c0 c1
    obtain ⟨c0, c1⟩ := (s8.blk 2 rfl).two
    have R2 := read_20 s8 1 rfl pk (gb_ok zs_len) (gb_ne _) (at' := 0) (m := (k : Int)) (xs := List.replicate k 0) (c := 0) (Or.inr ⟨by show fits (put k xs).length 0 k; rw [HK.out.2.1]; unfold fits; omega, rfl, (put_low hk).symm⟩)
    rw [List.length_replicate] at R2
    replace R2 := Lib.hid R2
    clear s8
    go_wp2_with fail
    refine R2.out.mono ?_
    rintro e w9 ⟨B2, cp2, rfl, s9'⟩
    have s9 : St w None w9 [BlkR cl 51 #[.int .i64 (3000 : Nat), .int .i64 2], PoolR p 2 (two (gb (put k xs)) (gb zs)), BlkR g 34 #[.int .i64 0, .int .u64 1], BlkR g2 34 #[.int .i64 1, .int .u64 1], LisR 5 1 (.slice B1 xs.length cp1) xs.length (bys xs), LisR 5 1 (.slice B2 k cp2) k (bys (List.replicate k 0))] := s9'
    clear s9' R2 c0 c1
    obtain ⟨c0, c1⟩ := (s9.blk 2 rfl).two
    have R3 := read_20 s9 1 rfl pk (gb_ok zs_len) (gb_ne _) (at' := (k : Int) + (xs.length : Int)) (m := 3000 - (k : Int) - (xs.length : Int)) (xs := List.replicate M 0) (c := 0) (Or.inr ⟨by show fits (put k xs).length _ _; rw [HK.out.2.1]; unfold fits; omega, rfl, by
      rw [show ((k : Int) + (xs.length : Int)).toNat = k + xs.length by omega, show (3000 - (k : Int) - (xs.length : Int)).toNat = 3000 - k - xs.length by omega, ← HK.out.2.2]
      exact (put_high hk).symm⟩)
    rw [List.length_replicate] at R3
    replace R3 := Lib.hid R3
    clear s9
    go_wp2_with fail
    refine R3.out.mono ?_
    rintro e w10 ⟨B3, cp3, rfl, s10'⟩
    have s10 : St w None w10 [BlkR cl 51 #[.int .i64 (3000 : Nat), .int .i64 2], PoolR p 2 (two (gb (put k xs)) (gb zs)), BlkR g 34 #[.int .i64 0, .int .u64 1], BlkR g2 34 #[.int .i64 1, .int .u64 1], LisR 5 1 (.slice B1 xs.length cp1) xs.length (bys xs), LisR 5 1 (.slice B2 k cp2) k (bys (List.replicate k 0)), LisR 5 1 (.slice B3 M cp3) M (bys (List.replicate M 0))] := s10'
    clear s10' R3 c0 c1
    have SM := Lib.hid (looks (same_eq (cap := cp1) (cap2 := cap) (rd_bys (s10.lis 4 rfl)) (RD.out.below s10.below (Nat.le_refl _)) (by unfold maxLen; omega) true (decide_eq_true hx).symm) s10)
    clear s10
    go_wp2_with fail
    refine SM.out.mono ?_
    rintro e w11 ⟨rfl, s11⟩
    replace s11 := Lib.hid s11
    clear SM
    go_wp2_with fail
    obtain ⟨w12, hrun, hown, hgrow⟩ := run_make_full (P := Try.prog) w11 w11.heap.size 35 5 i0 (.int .u8 0) 1 Try.underlying35 hi0 hz0 hz1 .i64 .i64 k (by rw [hz2]; have := HK.out.1; have := HK.out.2.2; omega) (by have := HK.out.1; have := HK.out.2.2; unfold maxLen; omega) (Nat.le_refl _)
    have Z1 := Lib.hid (zero_same (s11.out.make rfl hown hgrow) 5 rfl (by have := HK.out.1; have := HK.out.2.2; unfold maxLen; omega))
    have hr2 : Sem.run Try.prog (Instr.makeSlice 35 (.int .i64 (k : Int)) (.int .i64 (k : Int))) w11 = .ok (.slice (some ⟨w11.heap.size, 0, none⟩) k k) w12 := hrun
    rw [hr2]
    clear hrun hr2 hown hgrow
    go_wp2_with fail
    refine Z1.out.mono ?_
    rintro e w13 ⟨rfl, s13⟩
    replace s13 := Lib.hid s13
    clear Z1 s11
    go_wp2_with fail
    obtain ⟨w14, hrun, hown, hgrow⟩ := run_make_full (P := Try.prog) w13 w13.heap.size 35 5 i0 (.int .u8 0) 1 Try.underlying35 hi0 hz0 hz1 .i64 .i64 M (by rw [hz2]; have := HK.out.1; have := HK.out.2.2; omega) (by have := HK.out.1; have := HK.out.2.2; unfold maxLen; omega) (Nat.le_refl _)
    have Z2 := Lib.hid (zero_same (s13.out.make rfl hown hgrow) 6 rfl (by have := HK.out.1; have := HK.out.2.2; unfold maxLen; omega))
    have hr2 : Sem.run Try.prog (Instr.makeSlice 35 (.int .i64 (M : Int)) (.int .i64 (M : Int))) w13 = .ok (.slice (some ⟨w13.heap.size, 0, none⟩) M M) w14 := hrun
    rw [hr2]
    clear hrun hr2 hown hgrow
    go_wp2_with fail
    refine Z2.out.mono ?_
    rintro e w15 ⟨rfl, s15⟩
    replace s15 := Lib.hid s15
    clear Z2 s13
    go_wp2_with fail
    have s16 : Hid (St w None w15 [BlkR cl 51 #[.int .i64 (3000 : Nat), .int .i64 2], PoolR p 2 (two (gb (put k xs)) (gb zs)), BlkR g 34 #[.int .i64 0, .int .u64 1], BlkR g2 34 #[.int .i64 1, .int .u64 1], LisR 5 1 (.slice B1 xs.length cp1) xs.length (bys xs)]) := Lib.hid (s15.out.take 5)
    clear s15
    go_loopw [22] (fun i wr => ∃ (j : Nat) (us : List Int), j ≤ xs.length ∧ us.length = xs.length ∧ i = .int .i64 j ∧ St w None wr [BlkR cl 51 #[.int .i64 (3000 : Nat), .int .i64 2], PoolR p 2 (two (gb (put k xs)) (gb zs)), BlkR g 34 #[.int .i64 0, .int .u64 1], BlkR g2 34 #[.int .i64 1, .int .u64 1], LisR 5 1 (.slice B1 xs.length cp1) xs.length (bys us)]) (fun i _ => xs.length - (intOf i).toNat)
    case atStart => exact ⟨0, xs, by omega, rfl, rfl, s16.out⟩
    case round =>
      clear s16
      obtain ⟨j, us, hj, hul, rfl, sr⟩ := hrel
      by_cases hlt : j < xs.length
      · have dj : decide ((j : Int) < (xs.length : Int)) = true := decide_eq_true (by omega)
        obtain ⟨A', cap', hv, -, -, -, hcell⟩ := sr.lis_cells 4 rfl
        injection hv with hv1 _ hv2
        subst hv1 hv2
        obtain ⟨b', o', rfl, hcc⟩ := hcell.resolve_left (by omega)
        obtain ⟨y, hy⟩ : ∃ y, us[j]? = some y := ⟨_, List.getElem?_eq_getElem (by omega)⟩
        have q0 : wr.cell? ⟨b', o' + j, none⟩ = some (.int .u8 y) := hcc j _ (bys_get hy)
        have fz := (sr.lis 4 rfl).frozen (o' + j)
        have s17 := sr.lis_set 4 rfl (k := j) (by omega) (.int .u8 ((y + 1) % 256))
        rw [bys_set] at s17
        replace s17 := Lib.hid s17
        have HU := Lib.hid hul
        have j0 : (0 : Int) ≤ (j : Int) := by omega
        have j1 : (j : Int) < (xs.length : Int) := by omega
        clear sr hcell hcc hul hy
        go_wp2_with fail
        go_roundw
        case rel => exact ⟨j + 1, us.set j ((y + 1) % 256), by omega, by rw [List.length_set]; exact HU.out, by go_num, s17.out⟩
        case measure => simp [intOf]; omega
      · have dj : decide ((j : Int) < (xs.length : Int)) = false := decide_eq_false (by omega)
        obtain ⟨c0, c1⟩ := (sr.blk 2 rfl).two
        have R4 := Lib.hid (read_20 sr 1 rfl pk (gb_ok zs_len) (gb_ne _) (at' := (k : Int)) (m := (xs.length : Int)) (xs := xs) (c := 0) (Or.inr ⟨by show fits (put k xs).length k xs.length; rw [HK.out.2.1]; unfold fits; omega, rfl, (put_mid hk).symm⟩))
        clear sr hul
        go_wp2_with fail
        refine R4.out.mono ?_
        rintro e w18 ⟨B4, cp4, rfl, s18'⟩
        have s18 : St w None w18 [BlkR cl 51 #[.int .i64 (3000 : Nat), .int .i64 2], PoolR p 2 (two (gb (put k xs)) (gb zs)), BlkR g 34 #[.int .i64 0, .int .u64 1], BlkR g2 34 #[.int .i64 1, .int .u64 1], LisR 5 1 (.slice B1 xs.length cp1) xs.length (bys us), LisR 5 1 (.slice B4 xs.length cp4) xs.length (bys xs)] := s18'
        clear s18' R4 c0 c1
        obtain ⟨c2, c3⟩ := (s18.blk 3 rfl).two
        have R5 := read_21 s18 1 rfl pk (gb_ok zs_len) (gb_ne _) (at' := 0) (m := 3000) (xs := List.replicate 3000 0) (c := 0) (Or.inr ⟨by show fits zs.length 0 3000; rw [zs_len]; unfold fits; omega, rfl, zs_all.symm⟩)
        rw [List.length_replicate] at R5
        replace R5 := Lib.hid R5
        clear s18
        go_wp2_with fail
        refine R5.out.mono ?_
        rintro e w19 ⟨B5, cp5, rfl, s19'⟩
        have s19 : St w None w19 [BlkR cl 51 #[.int .i64 (3000 : Nat), .int .i64 2], PoolR p 2 (two (gb (put k xs)) (gb zs)), BlkR g 34 #[.int .i64 0, .int .u64 1], BlkR g2 34 #[.int .i64 1, .int .u64 1], LisR 5 1 (.slice B1 xs.length cp1) xs.length (bys us), LisR 5 1 (.slice B4 xs.length cp4) xs.length (bys xs), LisR 5 1 (.slice B5 3000 cp5) 3000 (bys (List.replicate 3000 0))] := s19'
        clear s19' R5 c2 c3
        have SM := Lib.hid (looks (same_eq (cap := cp4) (cap2 := cap) (rd_bys (s19.lis 5 rfl)) (RD.out.below s19.below (Nat.le_refl _)) (by unfold maxLen; omega) true (decide_eq_true hx).symm) s19)
        clear s19
        go_wp2_with fail
        refine SM.out.mono ?_
        rintro e w20 ⟨rfl, s20⟩
        replace s20 := Lib.hid s20
        clear SM
        go_wp2_with fail
        obtain ⟨w21, hrun, hown, hgrow⟩ := run_make_full (P := Try.prog) w20 w20.heap.size 35 5 i0 (.int .u8 0) 1 Try.underlying35 hi0 hz0 hz1 .i64 .i64 3000 (by rw [hz2]; omega) (by unfold maxLen; omega) (Nat.le_refl _)
        have ZS := Lib.hid (zero_same (s20.out.make rfl hown hgrow) 6 rfl (by unfold maxLen; omega))
        have hr2 : Sem.run Try.prog (Instr.makeSlice 35 (.int .i64 3000) (.int .i64 3000)) w20 = .ok (.slice (some ⟨w20.heap.size, 0, none⟩) 3000 3000) w21 := hrun
        rw [hr2]
        clear hrun hr2 hown hgrow
        go_wp2_with fail
        refine ZS.out.mono ?_
        rintro e w22 ⟨rfl, s22⟩
        clear ZS s20
        obtain ⟨c2, c3⟩ := (s22.blk 3 rfl).two
        obtain ⟨ys, rfl, hy, hyr⟩ := YS.out
        have WR := Lib.hid (write_21 (b' := gb (put 0 ys)) s22 1 rfl pk (gb_ok zs_len) (gb_ne _) (by' := 1) (at' := 0) (A := A2) (cp := cap2) (c := 0) (Or.inr (Or.inr (Or.inr ⟨who1, rfl, by show fits zs.length 0 ys.length; rw [zs_len]; unfold fits; omega, rfl, rfl⟩))) (by unfold maxLen; omega) (hyr _ s22.below))
        clear s22 hy hyr YS
        go_wp2_with fail
        refine WR.out.mono ?_
        rintro e w23 ⟨rfl, s23⟩
        go_wp2_with fail
        go_ret
        exact ⟨rfl, s23.below⟩

set_option maxRecDepth 100000 in
theorem lifted (os : Os) (started : os.Started) (H : Type) (enc : TypeId × Value → H) :
    ReturnsInHanded {} Try.checked os 4 .any (Rows.poolBytesSpec.pre6 enc Try.prog Try.f4 Rows.poolBytesRow.domain false) (Rows.poolBytesSpec.post enc Try.prog Try.f4 false true false false) := by
  refine law_lifted (C := Try.checked) (tb := 4) own started (by kernel_rfl) Try.func4
    (ChangeSpec.witness6 (enc := enc) (C := Try.checked) false ⟨#[], #[.int .i64 0, .slice none 0 0, .slice none 0 0], []⟩ 8 (by kernel_rfl) (by kernel_rfl) (by kernel_rfl) (by kernel_rfl)) laid (by kernel_rfl) (by kernel_rfl) Try.underlying4 rfl ?_
  intro W base args ds ps hval0 hA0 hlt
  have hval : ∀ (j : Nat) t v, Try.f4.params[j]? = some t → args[j]? = some v → Value.okWide Try.prog W .any base t v := hval0
  have hA : DataW.TrodAll enc Try.prog W 0 (fun _ => true) true Try.f4.params.toList args.toList ds ps := hA0
  clear hA0 hval0
  rw [Try.params4] at hA hval
  obtain ⟨v0, vs0, d0, ds0, p0, q0, hargs, rfl, rfl, h0, r0⟩ := trodAll_cons hA
  obtain ⟨v1, vs1, d1, ds1, p1, q1, rfl, rfl, rfl, h1, r1⟩ := trodAll_cons r0
  obtain ⟨v2, vs2, d2, ds2, p2, q2, rfl, rfl, rfl, h2, r2⟩ := trodAll_cons r1
  obtain ⟨rfl, rfl, rfl⟩ := trodAll_nil r2
  obtain rfl : args = #[v0, v1, v2] := by cases args; simp_all
  obtain ⟨a0, rfl, rfl, rfl, w0⟩ := open_int Try.underlying3 (hval 0 3 v0 rfl rfl) h0
  obtain ⟨A1, n1, cap1, f1, rfl, le1, mx1, wf1, rd1⟩ := open_slice_ints Try.underlying35 Try.underlying5 (by kernel_rfl) (hval 1 35 v1 rfl rfl) h1
  obtain ⟨A2, n2, cap2, f2, rfl, le2, mx2, wf2, rd2⟩ := open_slice_ints Try.underlying35 Try.underlying5 (by kernel_rfl) (hval 2 35 v2 rfl rfl) h2
  refine ⟨⟨rfl, rfl, rfl⟩, ?_⟩
  exact walk a0 A1 A2 n1 cap1 n2 cap2 f1 f2 W (bounds_i64 w0) (by omega) (by omega) rd1 rd2

theorem over : Rows.poolBytesRow.holds Try.pinned (OpenSpec.ofChange Rows.poolBytesSpec) :=
  OpenClaim.holds_of_wide 4 Try.f4 rfl rfl rfl rfl rfl rfl rfl ⟨rfl, rfl, rfl, rfl, rfl⟩ rfl rfl rfl rfl rfl (by kernel_rfl) Try.func4 (by kernel_rfl)
    (of_decide_eq_true (by kernel_rfl)) (by unfold Func.isWrapper; first | (rw [if_pos (by decide +kernel)]; kernel_rfl) | (rw [if_neg (by decide +kernel)]; exact ⟨rfl, rfl⟩))
    (fun os started H enc _ => lifted os started H enc)
theorem proved : Rows.PoolBytesSaid := over
#print axioms proved
end Go.Proofs.Ytceoflpoefehoaa.poolBytes
