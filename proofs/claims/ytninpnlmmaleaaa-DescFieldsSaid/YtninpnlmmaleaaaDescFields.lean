/-
  For every seven numbers, generation and marks DescFields answers true, and changes nothing: each field by itself makes a descriptor one, or none, as the bounds say. No condition.
-/
import Derived.Test.YtninpnlmmaleaaaRows
import Derived.Test.YtninpnlmmaleaaaFr
import Derived.Test.YtninpnlmmaleaaaDescU
import Derived.Test.YtninpnlmmaleaaaOpen
import Derived.Deep.RegionHeld3
import Derived.Deep.DeepCutAuto
import Derived.BigRegion
import Derived.Test.YtninpnlmmaleaaaFam
import Derived.LoopTactic
namespace Go.Proofs.Ytninpnlmmaleaaa.descFields
open Go.ChangeShapes Go.WideShapes Go.ChangeAt Go.RowKit
set_option linter.unusedVariables false
theorem own : ownKnob Try.prog.godebug = none := by kernel_rfl
theorem laid : laidOutB Try.prog = true := by kernel_rfl
set_option maxRecDepth 100000
set_option maxHeartbeats 1000000
/-- The field of the i-th, its bound, and the descriptor. -/
def nth (n0 n1 n2 n3 n4 n5 : Int) : Nat → Int
  | 0 => n0
  | 1 => n1
  | 2 => n2
  | 3 => n3
  | 4 => n4
  | _ => n5
def mth : Nat → Int
  | 0 => 15
  | 1 => 65535
  | 2 => 65535
  | 3 => 65535
  | 4 => 65536
  | _ => 255
def dth (n0 n1 n2 n3 n4 n5 : Int) : Nat → Dsc
  | 0 => ⟨n0, 0, 0, 0, 0, 0, false, false, 0⟩
  | 1 => ⟨0, n1, 0, 0, 0, 0, false, false, 0⟩
  | 2 => ⟨0, 0, n2, 0, 0, 0, false, false, 0⟩
  | 3 => ⟨0, 0, 0, 0, n3, 0, false, false, 0⟩
  | 4 => ⟨0, 0, 0, 0, 0, n4, false, false, 0⟩
  | _ => ⟨0, 0, 0, 0, 0, 0, false, true, n5⟩
theorem dth_may (n0 n1 n2 n3 n4 n5 : Int) (i : Nat) : (dth n0 n1 n2 n3 n4 n5 i).may ↔ 0 ≤ nth n0 n1 n2 n3 n4 n5 i ∧ nth n0 n1 n2 n3 n4 n5 i ≤ mth i := by
  unfold dth nth mth Dsc.may
  split <;> simp
def one (n0 n1 n2 n3 n4 n5 : Int) : Array Value := #[.int .i64 n0, .int .i64 0, .int .i64 0, .int .u64 0, .int .i64 0, .int .i64 0, .bool false, .bool false, .int .i64 0, .int .i64 0, .int .i64 n1, .int .i64 0, .int .u64 0, .int .i64 0, .int .i64 0, .bool false, .bool false, .int .i64 0, .int .i64 0, .int .i64 0, .int .i64 n2, .int .u64 0, .int .i64 0, .int .i64 0, .bool false, .bool false, .int .i64 0, .int .i64 0, .int .i64 0, .int .i64 0, .int .u64 0, .int .i64 n3, .int .i64 0, .bool false, .bool false, .int .i64 0, .int .i64 0, .int .i64 0, .int .i64 0, .int .u64 0, .int .i64 0, .int .i64 n4, .bool false, .bool false, .int .i64 0, .int .i64 0, .int .i64 0, .int .i64 0, .int .u64 0, .int .i64 0, .int .i64 0, .bool false, .bool true, .int .i64 n5]
def most : Array Value := #[.int .i64 15, .int .i64 65535, .int .i64 65535, .int .i64 65535, .int .i64 65536, .int .i64 255]
theorem one_at {W : World} {ob t : Nat} (n0 n1 n2 n3 n4 n5 : Int) (h : Blk W ob t (one n0 n1 n2 n3 n4 n5)) (i : Nat) (hi : i < 6) (D : Dsc) (hD : dth n0 n1 n2 n3 n4 n5 i = D) :
    W.cell? ⟨ob, i * 9, none⟩ = some (.int .i64 D.op) ∧ W.cell? ⟨ob, i * 9 + 1, none⟩ = some (.int .i64 D.req) ∧ W.cell? ⟨ob, i * 9 + 2, none⟩ = some (.int .i64 D.slot) ∧ W.cell? ⟨ob, i * 9 + 3, none⟩ = some (.int .u64 D.gen) ∧ W.cell? ⟨ob, i * 9 + 4, none⟩ = some (.int .i64 D.frm) ∧ W.cell? ⟨ob, i * 9 + 5, none⟩ = some (.int .i64 D.len) ∧ W.cell? ⟨ob, i * 9 + 6, none⟩ = some (.bool D.dv) ∧ W.cell? ⟨ob, i * 9 + 7, none⟩ = some (.bool D.dn) ∧ W.cell? ⟨ob, i * 9 + 8, none⟩ = some (.int .i64 D.st) := by
  subst hD
  refine ⟨?_, ?_, ?_, ?_, ?_, ?_, ?_, ?_, ?_⟩ <;> (rw [h.cell]; rcases (show i = 0 ∨ i = 1 ∨ i = 2 ∨ i = 3 ∨ i = 4 ∨ i = 5 by omega) with rfl | rfl | rfl | rfl | rfl | rfl <;> rfl)
def dg (g : Int) : Dsc := ⟨0, 0, 0, g, 0, 0, false, false, 0⟩
def dt (s : Int) : Dsc := ⟨0, 0, 0, 0, 0, 0, false, false, s⟩
def dk (a b : Bool) : Dsc := ⟨0, 0, 0, 0, 0, 0, a, b, 0⟩
theorem dk_may (a b : Bool) : (dk a b).may := by cases a <;> cases b <;> decide
theorem walk (n0 n1 n2 n3 n4 n5 n6 gen : Int) (m0 m1 : Bool) (w : World) (b0 : -9223372036854775808 ≤ n0 ∧ n0 ≤ 9223372036854775807) (b1 : -9223372036854775808 ≤ n1 ∧ n1 ≤ 9223372036854775807) (b2 : -9223372036854775808 ≤ n2 ∧ n2 ≤ 9223372036854775807) (b3 : -9223372036854775808 ≤ n3 ∧ n3 ≤ 9223372036854775807) (b4 : -9223372036854775808 ≤ n4 ∧ n4 ≤ 9223372036854775807) (b5 : -9223372036854775808 ≤ n5 ∧ n5 ≤ 9223372036854775807) (b6 : -9223372036854775808 ≤ n6 ∧ n6 ≤ 9223372036854775807) (bg : 0 ≤ gen ∧ gen ≤ 18446744073709551615) :
    Calls Try.prog 6 #[.agg #[.int .i64 n0, .int .i64 n1, .int .i64 n2, .int .i64 n3, .int .i64 n4, .int .i64 n5, .int .i64 n6], .int .u64 gen, .agg #[.bool m0, .bool m1]] w fun r w' => r = .returned (.bool true) ∧ Below w.heap.size w w' := by
  have HFIT := Lib.hid (show ∀ i, (dth n0 n1 n2 n3 n4 n5 i).fits by
    intro i
    unfold dth Dsc.fits
    split <;> dsimp only <;> omega)
  have HG := Lib.hid (show (dg gen).fits by unfold dg Dsc.fits; dsimp only; omega)
  have HT := Lib.hid (show (dt n6).fits by unfold dt Dsc.fits; dsimp only; omega)
  clear b0 b1 b2 b3 b4 b5 b6 bg
  go_enter Try.func6, Try.ntmps6
  go_wp2_with fail
  have s0 : St w None _ [_, _] := (St.begin w).box2 40 41 #[.int .i64 n0, .int .i64 n1, .int .i64 n2, .int .i64 n3, .int .i64 n4, .int .i64 n5, .int .i64 n6] #[.bool m0, .bool m1]
  refine (looks (awake_any _) s0).mono ?_
  rintro e w1 ⟨rfl, s1⟩
  clear s0
  generalize w.heap.size = nb at *
  have x0 : w1.cell? ⟨nb, 0, none⟩ = _ := (s1.blk 0 rfl).cell 0
  have x1 : w1.cell? ⟨nb, 1, none⟩ = _ := (s1.blk 0 rfl).cell 1
  have x2 : w1.cell? ⟨nb, 2, none⟩ = _ := (s1.blk 0 rfl).cell 2
  have x3 : w1.cell? ⟨nb, 3, none⟩ = _ := (s1.blk 0 rfl).cell 3
  have x4 : w1.cell? ⟨nb, 4, none⟩ = _ := (s1.blk 0 rfl).cell 4
  have x5 : w1.cell? ⟨nb, 5, none⟩ = _ := (s1.blk 0 rfl).cell 5
  have s2 : St w None ((w1.alloc (.cells #[.int .i64 n0, .int .i64 0, .int .i64 0, .int .u64 0, .int .i64 0, .int .i64 0, .bool false, .bool false, .int .i64 0, .int .i64 0, .int .i64 n1, .int .i64 0, .int .u64 0, .int .i64 0, .int .i64 0, .bool false, .bool false, .int .i64 0, .int .i64 0, .int .i64 0, .int .i64 n2, .int .u64 0, .int .i64 0, .int .i64 0, .bool false, .bool false, .int .i64 0, .int .i64 0, .int .i64 0, .int .i64 0, .int .u64 0, .int .i64 n3, .int .i64 0, .bool false, .bool false, .int .i64 0, .int .i64 0, .int .i64 0, .int .i64 0, .int .u64 0, .int .i64 0, .int .i64 n4, .bool false, .bool false, .int .i64 0, .int .i64 0, .int .i64 0, .int .i64 0, .int .u64 0, .int .i64 0, .int .i64 0, .bool false, .bool true, .int .i64 n5] 26)).alloc (.cells #[.int .i64 15, .int .i64 65535, .int .i64 65535, .int .i64 65535, .int .i64 65536, .int .i64 255] 3)) [_, _, BlkR w1.heap.size 26 (one n0 n1 n2 n3 n4 n5), BlkR (w1.heap.size + 1) 3 most] := s1.box2 26 3 (one n0 n1 n2 n3 n4 n5) most
  have S2 := Lib.hid s2
  clear s2 s1
  simp at x0 x1 x2 x3 x4 x5
  go_wp2_with fail
  have s2 := S2.out
  clear S2 x0 x1 x2 x3 x4 x5
  generalize w1.heap.size = ob at *
  go_loopw [9] (fun i wr => ∃ k : Nat, k ≤ 6 ∧ i = .int .i64 k ∧ St w None wr [BlkR nb 40 #[.int .i64 n0, .int .i64 n1, .int .i64 n2, .int .i64 n3, .int .i64 n4, .int .i64 n5, .int .i64 n6], BlkR (nb + 1) 41 #[.bool m0, .bool m1], BlkR ob 26 (one n0 n1 n2 n3 n4 n5), BlkR (ob + 1) 3 most]) (fun i _ => 6 - (intOf i).toNat)
  case atStart => exact ⟨0, by omega, rfl, s2⟩
  case round =>
    clear s2
    obtain ⟨i, hi, rfl, sr⟩ := hrel
    by_cases hlt : i < 6
    · obtain ⟨D, hD⟩ : ∃ D, dth n0 n1 n2 n3 n4 n5 i = D := ⟨_, rfl⟩
      obtain ⟨N, hN⟩ : ∃ N, nth n0 n1 n2 n3 n4 n5 i = N := ⟨_, rfl⟩
      obtain ⟨M, hM⟩ : ∃ M, mth i = M := ⟨_, rfl⟩
      have hmay := dth_may n0 n1 n2 n3 n4 n5 i
      have cN : wr.cell? ⟨nb, i, none⟩ = some (.int .i64 N) := by
        rw [(sr.blk 0 rfl).cell, ← hN]
        rcases (show i = 0 ∨ i = 1 ∨ i = 2 ∨ i = 3 ∨ i = 4 ∨ i = 5 by omega) with rfl | rfl | rfl | rfl | rfl | rfl <;> rfl
      have cM : wr.cell? ⟨ob + 1, i, none⟩ = some (.int .i64 M) := by
        rw [(sr.blk 3 rfl).cell, ← hM]
        rcases (show i = 0 ∨ i = 1 ∨ i = 2 ∨ i = 3 ∨ i = 4 ∨ i = 5 by omega) with rfl | rfl | rfl | rfl | rfl | rfl <;> rfl
      obtain ⟨c0, c1, c2, c3, c4, c5, c6, c7, c8⟩ := one_at n0 n1 n2 n3 n4 n5 (sr.blk 2 rfl) i hlt D hD
      have hfit := HFIT.out i
      rw [hD] at hmay hfit
      rw [hN, hM] at hmay
      have KEEP := Lib.hid (fun (W : World) (h : Below wr.heap.size wr W) (p : Addr) (hp : p.block < wr.heap.size) => h.cell hp)
      have hob := (sr.blk 2 rfl).lt
      have hob1 := (sr.blk 3 rfl).lt
      have hnb := (sr.blk 0 rfl).lt
      have SR := Lib.hid sr
      have HC := Lib.hid (show ∀ W, Below wr.heap.size wr W → W.cell? ⟨ob, i * 9, none⟩ = some (.int .i64 D.op) ∧ W.cell? ⟨ob, i * 9 + 1, none⟩ = some (.int .i64 D.req) ∧ W.cell? ⟨ob, i * 9 + 2, none⟩ = some (.int .i64 D.slot) ∧ W.cell? ⟨ob, i * 9 + 3, none⟩ = some (.int .u64 D.gen) ∧ W.cell? ⟨ob, i * 9 + 4, none⟩ = some (.int .i64 D.frm) ∧ W.cell? ⟨ob, i * 9 + 5, none⟩ = some (.int .i64 D.len) ∧ W.cell? ⟨ob, i * 9 + 6, none⟩ = some (.bool D.dv) ∧ W.cell? ⟨ob, i * 9 + 7, none⟩ = some (.bool D.dn) ∧ W.cell? ⟨ob, i * 9 + 8, none⟩ = some (.int .i64 D.st) ∧ W.cell? ⟨nb, i, none⟩ = some (.int .i64 N) ∧ W.cell? ⟨ob + 1, i, none⟩ = some (.int .i64 M) from fun W h => ⟨(h.cell (p := ⟨ob, _, none⟩) hob).trans c0, (h.cell (p := ⟨ob, _, none⟩) hob).trans c1, (h.cell (p := ⟨ob, _, none⟩) hob).trans c2, (h.cell (p := ⟨ob, _, none⟩) hob).trans c3, (h.cell (p := ⟨ob, _, none⟩) hob).trans c4, (h.cell (p := ⟨ob, _, none⟩) hob).trans c5, (h.cell (p := ⟨ob, _, none⟩) hob).trans c6, (h.cell (p := ⟨ob, _, none⟩) hob).trans c7, (h.cell (p := ⟨ob, _, none⟩) hob).trans c8, (h.cell (p := ⟨nb, _, none⟩) hnb).trans cN, (h.cell (p := ⟨ob + 1, _, none⟩) hob1).trans cM⟩)
      have i0 : (0 : Int) ≤ (i : Int) := by omega
      have i1 : (i : Int) < 6 := by omega
      have i2 : (i : Int) < 7 := by omega
      clear hD hN hM sr
      by_cases h0 : 0 ≤ N
      · have d0 : decide (0 ≤ N) = true := decide_eq_true h0
        have MC := Lib.hid (fun w => may_c D w hfit (decide (N ≤ M)) (by rw [decide_eq_decide, hmay]; omega))
        clear hmay hfit h0
        go_wp2_with fail
        go_region_held3 (fun W => W.cell? ⟨ob, i * 9, none⟩ = some (.int .i64 D.op) ∧ W.cell? ⟨ob, i * 9 + 1, none⟩ = some (.int .i64 D.req) ∧ W.cell? ⟨ob, i * 9 + 2, none⟩ = some (.int .i64 D.slot) ∧ W.cell? ⟨ob, i * 9 + 3, none⟩ = some (.int .u64 D.gen) ∧ W.cell? ⟨ob, i * 9 + 4, none⟩ = some (.int .i64 D.frm) ∧ W.cell? ⟨ob, i * 9 + 5, none⟩ = some (.int .i64 D.len) ∧ W.cell? ⟨ob, i * 9 + 6, none⟩ = some (.bool D.dv) ∧ W.cell? ⟨ob, i * 9 + 7, none⟩ = some (.bool D.dn) ∧ W.cell? ⟨ob, i * 9 + 8, none⟩ = some (.int .i64 D.st) ∧ W.cell? ⟨nb, i, none⟩ = some (.int .i64 N) ∧ W.cell? ⟨ob + 1, i, none⟩ = some (.int .i64 M)) (go_keep)
          (first | (go_at_call 11; refine (MC.out _).mono ?_; rintro e w5 ⟨rfl, hb5⟩; have q5 := HC.out _ (Below.trans (Below.refl _ _).drew hb5); have Q5 := Lib.hid (SR.out.drew.stay hb5); clear hb5))
        go_wp2_with fail
        exact ⟨⟨i + 1, by omega, by go_num, Q5.out⟩, by simp [intOf]; omega⟩
      · have d0 : decide (0 ≤ N) = false := decide_eq_false h0
        have MC := Lib.hid (fun w => may_c D w hfit false (by rw [eq_comm, decide_eq_false_iff_not, hmay]; omega))
        clear hmay hfit h0
        haveI : Nonempty (Within (fun W => Below wr.heap.size wr W)) := ⟨⟨_, Below.refl _ _⟩⟩
        have v0 : ∀ x : Within (fun W => Below wr.heap.size wr W), x.w.cell? ⟨ob, i * 9, none⟩ = some (.int .i64 D.op) := fun x => (HC.out x.w x.h).1
        have v1 : ∀ x : Within (fun W => Below wr.heap.size wr W), x.w.cell? ⟨ob, i * 9 + 1, none⟩ = some (.int .i64 D.req) := fun x => (HC.out x.w x.h).2.1
        have v2 : ∀ x : Within (fun W => Below wr.heap.size wr W), x.w.cell? ⟨ob, i * 9 + 2, none⟩ = some (.int .i64 D.slot) := fun x => (HC.out x.w x.h).2.2.1
        have v3 : ∀ x : Within (fun W => Below wr.heap.size wr W), x.w.cell? ⟨ob, i * 9 + 3, none⟩ = some (.int .u64 D.gen) := fun x => (HC.out x.w x.h).2.2.2.1
        have v4 : ∀ x : Within (fun W => Below wr.heap.size wr W), x.w.cell? ⟨ob, i * 9 + 4, none⟩ = some (.int .i64 D.frm) := fun x => (HC.out x.w x.h).2.2.2.2.1
        have v5 : ∀ x : Within (fun W => Below wr.heap.size wr W), x.w.cell? ⟨ob, i * 9 + 5, none⟩ = some (.int .i64 D.len) := fun x => (HC.out x.w x.h).2.2.2.2.2.1
        have v6 : ∀ x : Within (fun W => Below wr.heap.size wr W), x.w.cell? ⟨ob, i * 9 + 6, none⟩ = some (.bool D.dv) := fun x => (HC.out x.w x.h).2.2.2.2.2.2.1
        have v7 : ∀ x : Within (fun W => Below wr.heap.size wr W), x.w.cell? ⟨ob, i * 9 + 7, none⟩ = some (.bool D.dn) := fun x => (HC.out x.w x.h).2.2.2.2.2.2.2.1
        have v8 : ∀ x : Within (fun W => Below wr.heap.size wr W), x.w.cell? ⟨ob, i * 9 + 8, none⟩ = some (.int .i64 D.st) := fun x => (HC.out x.w x.h).2.2.2.2.2.2.2.2.1
        have v9 : ∀ x : Within (fun W => Below wr.heap.size wr W), x.w.cell? ⟨nb, i, none⟩ = some (.int .i64 N) := fun x => (HC.out x.w x.h).2.2.2.2.2.2.2.2.2.1
        have v10 : ∀ x : Within (fun W => Below wr.heap.size wr W), x.w.cell? ⟨ob + 1, i, none⟩ = some (.int .i64 M) := fun x => (HC.out x.w x.h).2.2.2.2.2.2.2.2.2.2
        go_wp2_with fail
        refine wp_region_in (fun W => Below wr.heap.size wr W) (by kernel_rfl) (by kernel_rfl) (Below.refl _ _).drew ?_
        repeat (go_big_quiet_step ((first | (go_at_call 11; exact in_call (p := (fun W => Below wr.heap.size wr W)) ((MC.out _).mono fun e w' h => ⟨h.1, below_then (Within.h (p := (fun W => Below wr.heap.size wr W)) _) h.2⟩)))))
        refine wpQuiet_nil ?_
        rintro _ ⟨⟨wq, sq⟩, rfl⟩
        go_wp2_with fail
        exact ⟨⟨i + 1, by omega, by go_num, SR.out.stay sq⟩, by simp [intOf]; omega⟩
    · obtain rfl : i = 6 := by omega
      clear hi hlt
      have SR := Lib.hid sr
      have q6 : wr.cell? ⟨nb, 6, none⟩ = some (.int .i64 n6) := (sr.blk 0 rfl).cell 6
      have q0 : wr.cell? ⟨nb + 1, 0, none⟩ = some (.bool m0) := (sr.blk 1 rfl).cell 0
      have q1 : wr.cell? ⟨nb + 1, 1, none⟩ = some (.bool m1) := (sr.blk 1 rfl).cell 1
      have hnb := (sr.blk 0 rfl).lt
      have MG := Lib.hid (fun W => may_c (dg gen) W HG.out (decide (gen < 4294967296)) (by
        rw [decide_eq_decide]
        have := HG.out
        unfold dg Dsc.fits at this
        unfold dg Dsc.may
        dsimp only at this ⊢
        simp
        omega))
      have MT := Lib.hid (fun W => may_c (dt n6) W HT.out (n6 == 0) (by
        rw [show (n6 == 0) = decide (n6 = 0) from rfl, decide_eq_decide]
        unfold dt Dsc.may
        dsimp only
        simp
        omega))
      unfold dg Dsc.v at MG
      unfold dt Dsc.v at MT
      dsimp only at MG MT
      clear sr
      go_upto_region 10 with (fail)
      go_cut [76] (fun x wx => x = .bool false ∧ St w None wx [BlkR nb 40 #[.int .i64 n0, .int .i64 n1, .int .i64 n2, .int .i64 n3, .int .i64 n4, .int .i64 n5, .int .i64 n6], BlkR (nb + 1) 41 #[.bool m0, .bool m1], BlkR ob 26 (one n0 n1 n2 n3 n4 n5), BlkR (ob + 1) 3 most])
      case first =>
        go_region_held3 (fun W => W.cell? ⟨nb, 6, none⟩ = some (.int .i64 n6) ∧ True) (go_keep)
          (first
            | (go_at_call 11; refine (MG.out _).mono ?_; rintro e w5 ⟨rfl, hb5⟩; have Q5 := Lib.hid (SR.out.drew.stay hb5); have q5 : w5.cell? ⟨nb, 6, none⟩ = some (.int .i64 n6) ∧ True := ⟨(Q5.out.blk 0 rfl).cell 6, trivial⟩; clear hb5 MG)
            | (go_at_call 11; refine (MT.out _).mono ?_; rintro e w6 ⟨rfl, hb6⟩; have Q6 := Lib.hid (Q5.out.stay hb6); have q6 : w6.cell? ⟨nb, 6, none⟩ = some (.int .i64 n6) ∧ True := ⟨(Q6.out.blk 0 rfl).cell 6, trivial⟩; clear hb6 MT))
        all_goals
          go_wp2_with fail
          go_meet
          exact ⟨rfl, Q6.out⟩
      case rest =>
        obtain ⟨rfl, s7⟩ := hcut
        have q0 : wc.cell? ⟨nb + 1, 0, none⟩ = some (.bool m0) := (s7.blk 1 rfl).cell 0
        have q1 : wc.cell? ⟨nb + 1, 1, none⟩ = some (.bool m1) := (s7.blk 1 rfl).cell 1
        have BY := Lib.hid (bytes_yes (dk m0 m1) (dk_may m0 m1) s7)
        unfold dk Dsc.v at BY
        dsimp only at BY
        clear s7 SR MG MT
        go_wp2_with fail
        refine BY.out.mono ?_
        rintro e w8 ⟨B, c, rfl, s8'⟩
        have s8 : St w None w8 [_, _, _, _, LisR 5 1 (.slice B 20 c) 20 (bys (dk m0 m1).fullL)] := s8'
        have FR := Lib.hid (from_full (dk_may m0 m1) s8 4 rfl)
        rw [show (dk m0 m1).v = .agg #[.int .i64 0, .int .i64 0, .int .i64 0, .int .u64 0, .int .i64 0, .int .i64 0, .bool m0, .bool m1, .int .i64 0] from rfl] at FR
        clear s8 s8' BY q0 q1
        go_wp2_with fail
        refine FR.out.mono ?_
        rintro e w9 ⟨rfl, s9⟩
        have s10 : St w None (w9.alloc (.cells #[.int .i64 0, .int .i64 0, .int .i64 0, .int .u64 0, .int .i64 0, .int .i64 0, .bool m0, .bool m1, .int .i64 0] 26)) [_, _, _, _, LisR 5 1 (.slice B 20 c) 20 (bys (dk m0 m1).fullL), BlkR w9.heap.size 26 (dk m0 m1).cells] := s9.box 26 (dk m0 m1).cells
        go_upto_region 14 with (fail)
        generalize w9.alloc (.cells #[.int .i64 0, .int .i64 0, .int .i64 0, .int .u64 0, .int .i64 0, .int .i64 0, .bool m0, .bool m1, .int .i64 0] 26) = wz at *
        generalize w9.heap.size = g9 at *
        obtain ⟨A', cap', hv, -, -, -, hcell⟩ := s10.lis_cells 4 rfl
        injection hv with hv1 _ hv2
        subst hv1 hv2
        obtain ⟨b, off, rfl, hcc⟩ := hcell.resolve_left (by omega)
        have z0 : wz.cell? ⟨b, off, none⟩ = some (.int .u8 (dk m0 m1).marks) := hcc 0 _ rfl
        have z1 : wz.cell? ⟨g9, 6, none⟩ = some (.bool m0) := (s10.blk 5 rfl).cell 6
        have z2 : wz.cell? ⟨g9, 7, none⟩ = some (.bool m1) := (s10.blk 5 rfl).cell 7
        have q0 : wz.cell? ⟨nb + 1, 0, none⟩ = some (.bool m0) := (s10.blk 1 rfl).cell 0
        have q1 : wz.cell? ⟨nb + 1, 1, none⟩ = some (.bool m1) := (s10.blk 1 rfl).cell 1
        have S10 := Lib.hid s10.below
        clear s10 s9 FR hcell hcc
        cases m0 <;> cases m1
        · have hk : (dk false false).marks = 0 := by decide
          rw [hk] at z0
          go_quiet (fail)
          go_wp2_with fail
          go_ret
          exact ⟨rfl, below_drewN S10.out _⟩
        · have hk : (dk false true).marks = 32 := by decide
          rw [hk] at z0
          go_quiet (fail)
          go_wp2_with fail
          go_ret
          exact ⟨rfl, below_drewN S10.out _⟩
        · have hk : (dk true false).marks = 16 := by decide
          rw [hk] at z0
          go_quiet (fail)
          go_wp2_with fail
          go_ret
          exact ⟨rfl, below_drewN S10.out _⟩
        · have hk : (dk true true).marks = 48 := by decide
          rw [hk] at z0
          go_quiet (fail)
          go_wp2_with fail
          go_ret
          exact ⟨rfl, below_drewN S10.out _⟩

set_option maxRecDepth 100000 in
theorem lifted (os : Os) (started : os.Started) (H : Type) (enc : TypeId × Value → H) :
    ReturnsInHanded {} Try.checked os 6 .any (Rows.descFieldsSpec.pre6 enc Try.prog Try.f6 Rows.descFieldsRow.domain false) (Rows.descFieldsSpec.post enc Try.prog Try.f6 false true false false) := by
  refine law_lifted (C := Try.checked) (tb := 4) own started (by kernel_rfl) Try.func6
    (ChangeSpec.witness6 (enc := enc) (C := Try.checked) false ⟨#[], #[.agg #[.int .i64 0, .int .i64 0, .int .i64 0, .int .i64 0, .int .i64 0, .int .i64 0, .int .i64 0], .int .u64 0, .agg #[.bool false, .bool false]], []⟩ 8 (by kernel_rfl) (by kernel_rfl) (by kernel_rfl) (by kernel_rfl)) laid (by kernel_rfl) (by kernel_rfl) Try.underlying4 rfl ?_
  intro W base args ds ps hval0 hA0 hlt
  have hval : ∀ (j : Nat) t v, Try.f6.params[j]? = some t → args[j]? = some v → Value.okWide Try.prog W .any base t v := hval0
  have hA : DataW.TrodAll enc Try.prog W 0 (fun _ => true) true Try.f6.params.toList args.toList ds ps := hA0
  clear hA0 hval0
  rw [Try.params6] at hA hval
  obtain ⟨v0, vs0, d0, ds0, p0, q0, hargs, rfl, rfl, h0, r0⟩ := trodAll_cons hA
  obtain ⟨v1, vs1, d1, ds1, p1, q1, rfl, rfl, rfl, h1, r1⟩ := trodAll_cons r0
  obtain ⟨v2, vs2, d2, ds2, p2, q2, rfl, rfl, rfl, h2, r2⟩ := trodAll_cons r1
  obtain ⟨rfl, rfl, rfl⟩ := trodAll_nil r2
  obtain rfl : args = #[v0, v1, v2] := by cases args; simp_all
  obtain ⟨cs0, rfl, sz0, ok0⟩ := open_flat (ts := [3, 3, 3, 3, 3, 3, 3]) (Or.inr ⟨_, _, Try.underlying40⟩) (by kernel_rfl) (by kernel_rfl) (hval 0 40 v0 rfl rfl)
  obtain ⟨c0_0, c0_1, c0_2, c0_3, c0_4, c0_5, c0_6, rfl⟩ := size7 sz0
  obtain ⟨a0_0, rfl, w0_0⟩ := cell_int Try.underlying3 (ok0 0 _ _ rfl rfl)
  obtain ⟨a0_1, rfl, w0_1⟩ := cell_int Try.underlying3 (ok0 1 _ _ rfl rfl)
  obtain ⟨a0_2, rfl, w0_2⟩ := cell_int Try.underlying3 (ok0 2 _ _ rfl rfl)
  obtain ⟨a0_3, rfl, w0_3⟩ := cell_int Try.underlying3 (ok0 3 _ _ rfl rfl)
  obtain ⟨a0_4, rfl, w0_4⟩ := cell_int Try.underlying3 (ok0 4 _ _ rfl rfl)
  obtain ⟨a0_5, rfl, w0_5⟩ := cell_int Try.underlying3 (ok0 5 _ _ rfl rfl)
  obtain ⟨a0_6, rfl, w0_6⟩ := cell_int Try.underlying3 (ok0 6 _ _ rfl rfl)
  obtain ⟨a1, rfl, rfl, rfl, w1⟩ := open_int Try.underlying22 (hval 1 22 v1 rfl rfl) h1
  obtain ⟨cs2, rfl, sz2, ok2⟩ := open_flat (ts := [4, 4]) (Or.inr ⟨_, _, Try.underlying41⟩) (by kernel_rfl) (by kernel_rfl) (hval 2 41 v2 rfl rfl)
  obtain ⟨c2_0, c2_1, rfl⟩ := size2 sz2
  obtain ⟨a2_0, rfl⟩ := cell_bool Try.underlying4 (ok2 0 _ _ rfl rfl)
  obtain ⟨a2_1, rfl⟩ := cell_bool Try.underlying4 (ok2 1 _ _ rfl rfl)
  refine ⟨⟨rfl, rfl, rfl⟩, ?_⟩
  exact walk a0_0 a0_1 a0_2 a0_3 a0_4 a0_5 a0_6 a1 a2_0 a2_1 W (bounds_i64 w0_0) (bounds_i64 w0_1) (bounds_i64 w0_2) (bounds_i64 w0_3) (bounds_i64 w0_4) (bounds_i64 w0_5) (bounds_i64 w0_6) (bounds_u64 w1)

theorem over : Rows.descFieldsRow.holds Try.pinned (OpenSpec.ofChange Rows.descFieldsSpec) :=
  OpenClaim.holds_of_wide 6 Try.f6 rfl rfl rfl rfl rfl rfl rfl ⟨rfl, rfl, rfl, rfl, rfl⟩ rfl rfl rfl rfl rfl (by kernel_rfl) Try.func6 (by kernel_rfl)
    (of_decide_eq_true (by kernel_rfl)) (by unfold Func.isWrapper; first | (rw [if_pos (by decide +kernel)]; kernel_rfl) | (rw [if_neg (by decide +kernel)]; exact ⟨rfl, rfl⟩))
    (fun os started H enc _ => lifted os started H enc)
theorem proved : Rows.DescFieldsSaid := over
#print axioms proved
end Go.Proofs.Ytninpnlmmaleaaa.descFields
