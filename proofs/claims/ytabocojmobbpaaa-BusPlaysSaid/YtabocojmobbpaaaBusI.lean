/- Layer 6: a bus is made. -/
import Derived.Test.YtabocojmobbpaaaBusH
namespace Go.Proofs.Ytabocojmobbpaaa
open Go.RowKit
set_option linter.unusedVariables false
set_option maxRecDepth 100000
set_option maxHeartbeats 400000
theorem Try.infoMaster : (Try.prog.info? 69).map (fun i => (i.zero, i.size, i.bytes)) = some (some (.agg #[.int .i64 0, .int .i64 0, .int .u64 0, .int .u64 0, .pointer none, .int .i64 0]), 6, 48) := by kernel_rfl
/-- A master's cells before it is laid. -/
def zcell (k : Nat) : Value := if k % 6 = 0 then .int .i64 0 else if k % 6 = 1 then .int .i64 0 else if k % 6 = 2 then .int .u64 0 else if k % 6 = 3 then .int .u64 0 else if k % 6 = 4 then .pointer none else .int .i64 0
/-- The first k are laid. -/
def mcellK (C : BC) (mp : Nat → Nat) (k j : Nat) : Value := if j / 6 < k then mcell C mp (fun _ => 0) j else zcell j
theorem zcell_made {n j : Nat} (h : j < n * 6) : (madeCells (Value.agg #[.int .i64 0, .int .i64 0, .int .u64 0, .int .u64 0, .pointer none, .int .i64 0]).cells (n * 6))[j]? = some (zcell j) := by
  have h6 : j % 6 < 6 := Nat.mod_lt _ (by omega)
  simp only [madeCells, Value.cells]
  rw [Array.getElem?_map, Array.getElem?_range, if_pos h]
  simp only [Option.map_some]
  unfold zcell
  have : j % 6 = 0 ∨ j % 6 = 1 ∨ j % 6 = 2 ∨ j % 6 = 3 ∨ j % 6 = 4 ∨ j % 6 = 5 := by omega
  rcases this with e | e | e | e | e | e <;> simp [e]
theorem zcell_at (i : Nat) : zcell (i * 6) = .int .i64 0 ∧ zcell (i * 6 + 1) = .int .i64 0 ∧ zcell (i * 6 + 2) = .int .u64 0 ∧ zcell (i * 6 + 3) = .int .u64 0 ∧ zcell (i * 6 + 4) = .pointer none ∧ zcell (i * 6 + 5) = .int .i64 0 := by
  have h0 : i * 6 % 6 = 0 := by omega
  have h1 : (i * 6 + 1) % 6 = 1 := by omega
  have h2 : (i * 6 + 2) % 6 = 2 := by omega
  have h3 : (i * 6 + 3) % 6 = 3 := by omega
  have h4 : (i * 6 + 4) % 6 = 4 := by omega
  have h5 : (i * 6 + 5) % 6 = 5 := by omega
  unfold zcell
  simp [h0, h1, h2, h3, h4, h5]
theorem mcellK_at (C : BC) (mp : Nat → Nat) (i : Nat) : mcellK C mp i (i * 6) = .int .i64 0 ∧ mcellK C mp i (i * 6 + 1) = .int .i64 0 ∧ mcellK C mp i (i * 6 + 2) = .int .u64 0 ∧ mcellK C mp i (i * 6 + 3) = .int .u64 0 ∧ mcellK C mp i (i * 6 + 4) = .pointer none ∧ mcellK C mp i (i * 6 + 5) = .int .i64 0 := by
  obtain ⟨z0, z1, z2, z3, z4, z5⟩ := zcell_at i
  unfold mcellK
  exact ⟨by rw [if_neg (by omega), z0], by rw [if_neg (by omega), z1], by rw [if_neg (by omega), z2], by rw [if_neg (by omega), z3], by rw [if_neg (by omega), z4], by rw [if_neg (by omega), z5]⟩
section
variable {w0 w w' : World} {S0 : Nat → Prop} {L : List Res} {C : BC} {b g : Nat} {mp : Nat → Nat}
/-- A master is laid. -/
theorem lay_master {n k : Nat} (H : St w0 S0 w L) (q : Nat) (hq : L[q]? = some (ArrR g 69 (n * 6) (mcellK C mp k))) (hk : k < n) (r : Nat) :
    St w0 S0 ((((((w.setCell ⟨g, k * 6, none⟩ (.int .i64 (C.prio k))).setCell ⟨g, k * 6 + 1, none⟩ (.int .i64 (C.burst k))).setCell ⟨g, k * 6 + 2, none⟩ (.int .u64 (C.B k))).setCell ⟨g, k * 6 + 3, none⟩ (.int .u64 (C.P k))).setCell ⟨g, k * 6 + 4, none⟩ (.pointer (some ⟨r, 0, none⟩))).setCell ⟨g, k * 6 + 5, none⟩ (.int .i64 0))
      (L.set q (ArrR g 69 (n * 6) (mcellK C (upd mp k r) (k + 1)))) := by
  have hql := (List.getElem?_eq_some_iff.1 hq).1
  have h1 := H.arr_set q hq (k := k * 6) (by omega) (.int .i64 (C.prio k))
  have h2 := h1.arr_set q (List.getElem?_set_self hql) (k := k * 6 + 1) (by omega) (.int .i64 (C.burst k))
  have h3 := h2.arr_set q (List.getElem?_set_self (by simpa using hql)) (k := k * 6 + 2) (by omega) (.int .u64 (C.B k))
  have h4 := h3.arr_set q (List.getElem?_set_self (by simpa using hql)) (k := k * 6 + 3) (by omega) (.int .u64 (C.P k))
  have h5 := h4.arr_set q (List.getElem?_set_self (by simpa using hql)) (k := k * 6 + 4) (by omega) (.pointer (some ⟨r, 0, none⟩))
  have h6 := h5.arr_set q (List.getElem?_set_self (by simpa using hql)) (k := k * 6 + 5) (by omega) (.int .i64 0)
  have h7 := h6.arr_like (V' := mcellK C (upd mp k r) (k + 1)) q (List.getElem?_set_self (by simpa using hql)) (fun j hj => by
    obtain ⟨m0, m1, m2, m3, m4, m5⟩ := mcell_at C (upd mp k r) (fun _ => 0) k
    by_cases e : j / 6 = k
    · have : j = k * 6 ∨ j = k * 6 + 1 ∨ j = k * 6 + 2 ∨ j = k * 6 + 3 ∨ j = k * 6 + 4 ∨ j = k * 6 + 5 := by omega
      unfold mcellK
      rw [if_pos (by omega)]
      rcases this with rfl | rfl | rfl | rfl | rfl | rfl
      · rw [m0]; simp
      · rw [m1]; simp
      · rw [m2]; simp
      · rw [m3]; simp
      · rw [m4]; simp [upd]
      · rw [m5]; simp
    · rw [if_neg (by omega), if_neg (by omega), if_neg (by omega), if_neg (by omega), if_neg (by omega), if_neg (by omega)]
      unfold mcellK
      by_cases h : j / 6 < k
      · rw [if_pos (by omega), if_pos h]
        unfold mcell upd
        rw [if_neg e]
      · rw [if_neg (by omega), if_neg h])
  simp only [List.set_set] at h7
  exact h7
theorem bnew_hor {A : Option Addr} {cap : Nat} {ph : Int} {V : Nat → Nat → Value} (w : World) (h1 : 1 ≤ C.n) (h16 : C.n ≤ 16) (rd : RdM w A C.n 4 V) (hV : MV C V) (h : ∀ i, i < C.n → okM (C.prio i) (C.burst i) (C.B i) (C.P i)) (hp : ¬ ph < 4611686018427387904) :
    Calls Try.prog 10 #[.slice A C.n cap, .int .u64 ph] w fun e w' => e = .returned (.tuple #[.pointer none, .int .i64 2]) ∧ Below w.heap.size w w' := by
  have d1 : decide ((C.n : Int) < 1) = false := decide_eq_false (by omega)
  have d2 : decide (16 < (C.n : Int)) = false := decide_eq_false (by omega)
  obtain ⟨i0, hi, hz0, hz1, hz2⟩ := info_parts Try.infoMaster
  have mk := fun W => run_make_rowM (P := Try.prog) 62 69 i0 (.agg #[.int .i64 0, .int .i64 0, .int .u64 0, .int .u64 0, .pointer none, .int .i64 0]) 6 Try.underlying62 hi hz0 hz1 .i64 .i64 C.n (by rw [hz2]; omega) (by omega) W
  have MK := Lib.hid mk
  clear mk hi hz0 hz1 hz2
  go_enter Try.func10, Try.ntmps10
  go_wp2_with fail
  go_loopw [23] (fun i wr => ∃ k : Nat, k ≤ C.n ∧ i = .int .i64 k ∧ Below w.heap.size w wr) (fun i _ => C.n - (intOf i).toNat)
  case atStart => exact ⟨0, by omega, rfl, Below.refl _ _⟩
  case round =>
    obtain ⟨k, hk, rfl, hB⟩ := hrel
    by_cases hlt : k < C.n
    · obtain ⟨ib, off, rfl, e0, e1, e2, e3⟩ := hV.at_ rd hB hlt
      have hB2 := hB.alloc hB.size (.cells #[.int .i64 (C.prio k), .int .i64 (C.burst k), .int .u64 (C.B k), .int .u64 (C.P k)] 34)
      have HY := Lib.hid (h k hlt)
      clear h
      go_wp2_with fail
      refine (bM_yes _ _ _ _ _ HY.out).mono ?_
      rintro e w1 ⟨rfl, hw1⟩
      have hB3 := below_then hB2 hw1
      go_wp2
      go_roundw
      case rel => exact ⟨k + 1, by omega, by go_num, hB3⟩
      case measure => simp [intOf]; omega
    · have mk := MK.out
      have hB2 := hB.alloc hB.size (.cells (madeCells (Value.agg #[.int .i64 0, .int .i64 0, .int .u64 0, .int .u64 0, .pointer none, .int .i64 0]).cells (C.n * 6)) 69)
      have hB3 := hB2.alloc hB2.size (.cells #[.slice (some ⟨wr.heap.size, 0, none⟩) C.n C.n, .int .u64 ph, .int .i64 (-1), .int .i64 0] 64)
      have H := Lib.hid h
      clear h
      go_wp2_with fail
      clear mk
      go_loopw [39] (fun i wx => i = .int .i64 0 ∧ Below w.heap.size w wx) (fun i _ => C.n - (intOf i).toNat)
      case atStart => exact ⟨rfl, hB3⟩
      case round =>
        obtain ⟨rfl, hB4⟩ := hrel
        obtain ⟨ib, off, rfl, e0, e1, e2, e3⟩ := hV.at_ rd hB4 (k := 0) (by omega)
        simp only [Nat.zero_mul, Nat.add_zero] at e0 e1 e2 e3
        have d0 : decide ((0 : Int) < (C.n : Int)) = true := decide_eq_true (by omega)
        have HO := H.out 0 (by omega)
        have HY := Lib.hid HO.2.2
        have hB5 := hB4.alloc hB4.size (.cells #[.int .i64 (C.prio 0), .int .i64 (C.burst 0), .int .u64 (C.B 0), .int .u64 (C.P 0)] 34)
        clear HO
        go_wp2_with fail
        refine (new_hor _ _ ph _ HY.out (by omega)).mono ?_
        rintro e w1 ⟨rfl, hw1⟩
        have hB6 := below_then hB5 hw1
        go_wp2
        go_ret2
        exact ⟨rfl, hB6⟩
/-- A new bus. -/
abbrev bs0 (ph : Int) : BS := ⟨fun _ => [], fun _ => 0, ph, -1, 0⟩
theorem bs0_ok {C : BC} (hC : C.OK) : (bs0 C.ph).OK C 0 :=
  ⟨fun i hi => ⟨Int.le_refl _, Int.le_refl _⟩, ⟨Int.le_refl _, by have := hC.ph; show C.ph ≤ _; omega⟩, ⟨Int.le_refl _, by show (-1 : Int) < _; omega⟩, ⟨Int.le_refl _, Int.le_refl _⟩, fun _ => rfl, fun h => by simp at h, fun i hi => by simp⟩
theorem xok0 {B P ph : Int} (h : 1 ≤ B ∧ B ≤ P ∧ P ≤ 1099511627776) (hp : 0 ≤ ph ∧ ph < 4611686018427387904) : XOK B P ph ph [] :=
  ⟨h, ⟨hp.1, Int.le_refl _, hp.2⟩, fun p hp => by simp at hp, fun K => by simp [sw]; omega⟩
theorem bnew_ok {A : Option Addr} {cap : Nat} {V : Nat → Nat → Value} (H : St w0 S0 w L) (hC : C.OK) (rd : RdM w A C.n 4 V) (hV : MV C V) :
    Calls Try.prog 10 #[.slice A C.n cap, .int .u64 C.ph] w fun e w' => ∃ b g mp, e = .returned (.tuple #[.pointer (some ⟨b, 0, none⟩), .int .i64 0]) ∧ St w0 S0 w' (L ++ [BusP C b g mp (bs0 C.ph)]) := by
  have h1 := hC.n1
  have h16 := hC.n16
  have hok : ∀ i, i < C.n → okM (C.prio i) (C.burst i) (C.B i) (C.P i) := fun i hi => ⟨hC.prio i hi, hC.burst i hi, hC.share i hi⟩
  have d1 : decide ((C.n : Int) < 1) = false := decide_eq_false (by omega)
  have d2 : decide (16 < (C.n : Int)) = false := decide_eq_false (by omega)
  obtain ⟨i0, hi, hz0, hz1, hz2⟩ := info_parts Try.infoMaster
  have mk := fun W => run_make_rowM (P := Try.prog) 62 69 i0 (.agg #[.int .i64 0, .int .i64 0, .int .u64 0, .int .u64 0, .pointer none, .int .i64 0]) 6 Try.underlying62 hi hz0 hz1 .i64 .i64 C.n (by rw [hz2]; omega) (by omega) W
  have MK := Lib.hid mk
  have HH := Lib.hid H
  clear mk hi hz0 hz1 hz2 H
  go_enter Try.func10, Try.ntmps10
  go_wp2_with fail
  go_loopw [23] (fun i wr => ∃ k : Nat, k ≤ C.n ∧ i = .int .i64 k ∧ Below w.heap.size w wr) (fun i _ => C.n - (intOf i).toNat)
  case atStart => exact ⟨0, by omega, rfl, Below.refl _ _⟩
  case round =>
    obtain ⟨k, hk, rfl, hB⟩ := hrel
    by_cases hlt : k < C.n
    · obtain ⟨ib, off, rfl, e0, e1, e2, e3⟩ := hV.at_ rd hB hlt
      have hB2 := hB.alloc hB.size (.cells #[.int .i64 (C.prio k), .int .i64 (C.burst k), .int .u64 (C.B k), .int .u64 (C.P k)] 34)
      have HY := Lib.hid (hok k hlt)
      clear hok
      go_wp2_with fail
      refine (bM_yes _ _ _ _ _ HY.out).mono ?_
      rintro e w1 ⟨rfl, hw1⟩
      have hB3 := below_then hB2 hw1
      go_wp2
      go_roundw
      case rel => exact ⟨k + 1, by omega, by go_num, hB3⟩
      case measure => simp [intOf]; omega
    · have mk := MK.out
      have s1 : St w None (wr.alloc (.cells (madeCells (Value.agg #[.int .i64 0, .int .i64 0, .int .u64 0, .int .u64 0, .pointer none, .int .i64 0]).cells (C.n * 6)) 69)) [ArrR wr.heap.size 69 (C.n * 6) (mcellK C (fun _ => 0) 0)] :=
        ((St.begin w).stay hB).box_arr 69 _ (C.n * 6) _ (by simp [madeCells]) (fun i hi => by rw [zcell_made hi]; simp [mcellK])
      have s2 := s1.front 64 #[.slice (some ⟨wr.heap.size, 0, none⟩) C.n C.n, .int .u64 C.ph, .int .i64 (-1), .int .i64 0]
      have hg : (wr.alloc (.cells (madeCells (Value.agg #[.int .i64 0, .int .i64 0, .int .u64 0, .int .u64 0, .pointer none, .int .i64 0]).cells (C.n * 6)) 69)).heap.size = wr.heap.size + 1 := by simp
      rw [hg] at s2
      have S2 := Lib.hid s2
      have HO := Lib.hid hok
      clear hok s1 s2 hg hB
      go_wp2_with fail
      have s2 := S2.out
      clear mk S2
      generalize wr.heap.size = g at *
      go_loopw [39] (fun i wx => ∃ (k : Nat) (mp : Nat → Nat), k ≤ C.n ∧ i = .int .i64 k ∧ St w None wx ([BlkR (g + 1) 64 #[.slice (some ⟨g, 0, none⟩) C.n C.n, .int .u64 C.ph, .int .i64 (-1), .int .i64 0], ArrR g 69 (C.n * 6) (mcellK C mp k)] ++ (List.range k).map (fun i => MetE (mp i) (C.B i) (C.P i) C.ph [] C.ph))) (fun i _ => C.n - (intOf i).toNat)
      case atStart => exact ⟨0, fun _ => 0, by omega, rfl, s2⟩
      case round =>
        clear s2
        obtain ⟨k, mp, hk, rfl, sr⟩ := hrel
        by_cases hlt : k < C.n
        · obtain ⟨ib, off, rfl, e0, e1, e2, e3⟩ := hV.at_ rd sr.below hlt
          have HY := Lib.hid (HO.out k hlt)
          have sb := sr.front 34 #[.int .i64 (C.prio k), .int .i64 (C.burst k), .int .u64 (C.B k), .int .u64 (C.P k)]
          have SB := Lib.hid sb
          clear sr sb
          go_wp2_with fail
          refine (met_new SB.out HY.out.2.2 hC.ph.1 hC.ph.2).mono ?_
          rintro e w1 ⟨r, rfl, s3⟩
          have q := (s3.blk 0 rfl).four
          obtain ⟨q0, q1, q2, q3⟩ := q
          obtain ⟨c0, c1, c2, c3⟩ := (s3.blk 1 rfl).four
          obtain ⟨z0, z1, z2, z3, z4, z5⟩ := mcellK_at C mp k
          have m0 := s3.arr_cell 2 rfl (k := k * 6) (by omega)
          have m1 := s3.arr_cell 2 rfl (k := k * 6 + 1) (by omega)
          have m2 := s3.arr_cell 2 rfl (k := k * 6 + 2) (by omega)
          have m3 := s3.arr_cell 2 rfl (k := k * 6 + 3) (by omega)
          have m4 := s3.arr_cell 2 rfl (k := k * 6 + 4) (by omega)
          have m5 := s3.arr_cell 2 rfl (k := k * 6 + 5) (by omega)
          rw [z0] at m0; rw [z1] at m1; rw [z2] at m2; rw [z3] at m3; rw [z4] at m4; rw [z5] at m5
          have f0 := s3.arr_frozen 2 rfl (k * 6)
          have f1 := s3.arr_frozen 2 rfl (k * 6 + 1)
          have f2 := s3.arr_frozen 2 rfl (k * 6 + 2)
          have f3 := s3.arr_frozen 2 rfl (k * 6 + 3)
          have f4 := s3.arr_frozen 2 rfl (k * 6 + 4)
          have f5 := s3.arr_frozen 2 rfl (k * 6 + 5)
          have i0 : (0 : Int) ≤ (k : Int) := by omega
          have i1 : (k : Int) < (C.n : Int) := by omega
          have S3 := Lib.hid s3
          clear s3 z0 z1 z2 z3 z4 z5 SB
          go_wp2
          go_region
          go_wp2
          go_roundw
          case rel =>
            have X0 := (lay_master S3.out 2 rfl hlt r).drew
            have X1 := X0.drop 0 (by simp)
            have X2 : St w None _ ([BlkR (g + 1) 64 #[.slice (some ⟨g, 0, none⟩) C.n C.n, .int .u64 C.ph, .int .i64 (-1), .int .i64 0], ArrR g 69 (C.n * 6) (mcellK C (upd mp k r) (k + 1))] ++ (List.range k).map (fun i => MetE (mp i) (C.B i) (C.P i) C.ph [] C.ph) ++ [MetR r (C.B k) (C.P k) C.ph C.ph []]) := X1
            have X3 := X2.fam_snoc (F' := fun i => MetE (upd mp k r i) (C.B i) (C.P i) C.ph [] C.ph) (MetE.ok _ _ _ _ _ _) (fun i hi => by simp [upd, show ¬ i = k by omega]) (fun S h => ⟨C.ph, Int.le_refl _, xok0 HY.out.2.2 hC.ph, by simpa [upd] using h⟩)
            exact ⟨k + 1, upd mp k r, by omega, by go_num, X3⟩
          case measure => simp [intOf]; omega
        · obtain rfl : k = C.n := by omega
          have Y0 := sr.arr_like (V' := mcell C mp (fun _ => 0)) 1 rfl (fun j hj => by unfold mcellK; rw [if_pos (by omega)])
          obtain ⟨S', y1, y2, y3⟩ := Y0.made
          have Y1 := HH.out.more y3 (Star.one (BusR.ok C (g + 1) g mp C.ph (bs0 C.ph)) y1) y2
          have Y2 := Lib.hid Y1
          clear Y0 y1 y2 y3 Y1 sr
          go_wp2
          go_ret2
          exact ⟨g + 1, g, mp, rfl, Y2.out⟩
end
end Go.Proofs.Ytabocojmobbpaaa
