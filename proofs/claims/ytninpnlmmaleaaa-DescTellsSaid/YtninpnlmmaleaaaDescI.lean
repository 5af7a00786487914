/- Layer 9: a descriptor read, the document's. -/
import Derived.Test.YtninpnlmmaleaaaDescH
import Derived.Test.YtninpnlmmaleaaaDescS
import Derived.Test.YtninpnlmmaleaaaFam
import Derived.StillTailTactics
namespace Go.Proofs.Ytninpnlmmaleaaa
open Go.RowKit
set_option linter.unusedVariables false
set_option maxRecDepth 100000
set_option maxHeartbeats 1000000
section
variable {w0 w : World} {S0 : Nat → Prop} {L : List Res}
theorem num_c {b off z cap a : Nat} {f : Nat → Int} (hz : z ≤ 4) (x : Int) (hx : x = numAt f a z) (hf : ∀ j, j < 20 → 0 ≤ f j ∧ f j < 256) (ha : a + z ≤ 20) (hc : ∀ j, j < 20 → w.cell? ⟨b, off + j, none⟩ = some (.int .u8 (f j))) :
    Calls Try.prog 25 #[.slice (some ⟨b, off + a, none⟩) z cap] w fun e w' => e = .returned (.int .i64 x) ∧ w = w' := by
  have HX := Lib.hid hx
  clear hx
  go_enter Try.func25, Try.ntmps25
  go_wp2_with fail
  go_loopw [3, 4] (fun v i wr => ∃ k : Nat, k ≤ z ∧ i = .int .i64 k ∧ v = .int .i64 (numAt f a k) ∧ wr = w) (fun _ i _ => z - (intOf i).toNat)
  case atStart => exact ⟨0, by omega, rfl, rfl, rfl⟩
  case round =>
    obtain ⟨k, hk, rfl, rfl, rfl⟩ := hrel
    by_cases hlt : k < z
    · have cj := hc (a + k) (by omega)
      rw [← Nat.add_assoc] at cj
      have hfj := hf (a + k) (by omega)
      have hb := numAt_bd (f := f) (a := a) (z := k) fun j hj => hf j (by omega)
      have hb2 : numAt f a k < 16777216 := by
        rcases (show k = 0 ∨ k = 1 ∨ k = 2 ∨ k = 3 by omega) with rfl | rfl | rfl | rfl <;> omega
      have HE := Lib.hid (show numAt f a (k + 1) = numAt f a k * 256 + f (a + k) from rfl)
      have hb0 := hb.1
      clear hb
      generalize numAt f a k = y at *
      generalize f (a + k) = c at *
      have e1 : wrap64 (y * 256) = y * 256 := IntWalk.wrap64_in _ ⟨by omega, by omega⟩
      have e2 : wrap64 (y * 256 + c) = y * 256 + c := IntWalk.wrap64_in _ ⟨by omega, by omega⟩
      go_wp2
      go_roundw
      case rel => exact ⟨k + 1, by omega, by go_num, by rw [HE.out], trivial⟩
      case measure => simp [intOf]; omega
    · obtain rfl : k = z := by omega
      go_wp2
      go_ret
      exact ⟨by rw [HX.out]; rfl, rfl⟩
theorem rbytes_no (d : Dsc) (hf : d.fits) (hd : ¬ d.may) (w : World) : Calls Try.prog 14 #[d.v] w fun e w' => e = .returned (.slice none 0 0) ∧ Below w.heap.size w w' := by
  have M := Lib.hid (fun (w : World) => rmay_c d w hf false (decide_eq_false hd).symm)
  unfold Dsc.v at M ⊢
  go_enter Try.func14, Try.ntmps14
  go_wp2_with fail
  have s0 : St w None _ [_] := (St.begin w).box 26 d.cells
  refine (M.out _).mono ?_
  rintro e w1 ⟨rfl, hb⟩
  have s1 := s0.stay hb
  go_wp2_with fail
  go_ret
  exact ⟨rfl, s1.below⟩
theorem rfrom_small {A : Option Addr} {n cap : Nat} {f : Nat → Int} (rd : Rd w A n (fun j => .int .u8 (f j))) (h : n ≠ 20 ∨ (n = 20 ∧ 63 < f 0)) :
    Calls Try.prog 16 #[.slice A n cap] w fun e w' => e = .returned (.tuple #[Dsc.zero.v, .int .i64 9]) ∧ Below w.heap.size w w' := by
  obtain ⟨c0, c1, c2, c3, c4, c5, c6, c7, c8⟩ := dsc_cells Dsc.zero _ w.heap.size (Blk.new w 26 Dsc.zero.cells)
  rcases h with h | ⟨rfl, h⟩
  · have d1 : ((n : Int) != 20) = true := by simp [bne]; omega
    go_enter Try.func16, Try.ntmps16
    go_wp2_with fail
    refine bodyPost_ret (v := .tuple #[Dsc.zero.v, .int .i64 9]) ?_ rfl ⟨rfl, (Below.refl _ _).alloc (Nat.le_refl _) _⟩
    simp [results, go_sem, Dsc.zero, Dsc.v]
  · obtain ⟨b, off, rfl, hb, hc⟩ := rd (by omega)
    have e0 : w.cell? ⟨b, off, none⟩ = some (.int .u8 (f 0)) := hc 0 (by omega)
    have e1 := cell_alloc e0 (.cells #[.int .i64 0, .int .i64 0, .int .i64 0, .int .u64 0, .int .i64 0, .int .i64 0, .bool false, .bool false, .int .i64 0] 26)
    have d1 : decide (63 < f 0) = true := decide_eq_true h
    go_enter Try.func16, Try.ntmps16
    go_wp2_with fail
    refine bodyPost_ret (v := .tuple #[Dsc.zero.v, .int .i64 9]) ?_ rfl ⟨rfl, (Below.refl _ _).alloc (Nat.le_refl _) _⟩
    simp [results, go_sem, Dsc.zero, Dsc.v]
theorem keep_drew {wA W : World} {p q : Addr} {x y : Value} {n : Nat} (h : W.cell? p = some x ∧ W.cell? q = some y ∧ Below n wA W) : W.drew.cell? p = some x ∧ W.drew.cell? q = some y ∧ Below n wA W.drew := ⟨h.1, h.2.1, h.2.2.drew⟩
theorem keep_alloc {wA W : World} {p q : Addr} {x y : Value} (h : W.cell? p = some x ∧ W.cell? q = some y ∧ Below wA.heap.size wA W) (o : Obj) : (W.alloc o).cell? p = some x ∧ (W.alloc o).cell? q = some y ∧ Below wA.heap.size wA (W.alloc o) := ⟨cell_alloc h.1 o, cell_alloc h.2.1 o, h.2.2.alloc h.2.2.size o⟩
theorem keep_below {wA W : World} {p q : Addr} {x y : Value} {n : Nat} (h : W.cell? p = some x ∧ W.cell? q = some y ∧ Below n wA W) : Below n wA W := h.2.2
theorem rfrom_c {A : Option Addr} {n cap : Nat} {f : Nat → Int} (rd : Rd w A n (fun j => .int .u8 (f j))) (hf : ∀ j, j < n → 0 ≤ f j ∧ f j < 256) (hcap : n ≤ cap ∧ cap ≤ maxLen) (d : Dsc) (c : Int) (hD : (isD f n ∧ d = dec f ∧ c = 0) ∨ (¬ isD f n ∧ d = Dsc.zero ∧ c = 9)) :
    Calls Try.prog 16 #[.slice A n cap] w fun e w' => e = .returned (.tuple #[d.v, .int .i64 c]) ∧ Below w.heap.size w w' := by
  by_cases hn : n = 20 ∧ f 0 ≤ 63
  · obtain ⟨rfl, h63⟩ := hn
    have HDD := Lib.hid hD
    have hfit := dec_fits hf
    have h0 := hf 0 (by omega)
    have hop : (f 0).tmod 16 = (dec f).op := Int.tmod_eq_emod_of_nonneg h0.1
    have wf0 : IntKind.i64.wrap (f 0) = f 0 := IntWalk.i64_in _ ⟨by omega, by omega⟩
    have h1 := hf 1 (by omega)
    have wst : IntKind.i64.wrap (dec f).st = (dec f).st := IntWalk.i64_in _ ⟨by show _ ≤ f 1; omega, by show f 1 ≤ _; omega⟩
    have hdv : (f 0 / 16 % 2 == 1) = (dec f).dv := rfl
    have t16 : IntKind.u8.wrap ((f 0).tdiv 16) = f 0 / 16 := by rw [Int.tdiv_eq_ediv_of_nonneg h0.1]; exact IntWalk.u8_in _ ⟨by omega, by omega⟩
    have t32 : IntKind.u8.wrap ((f 0).tdiv 32) = f 0 / 32 := by rw [Int.tdiv_eq_ediv_of_nonneg h0.1]; exact IntWalk.u8_in _ ⟨by omega, by omega⟩
    have hdv2 : ((IntKind.u8.wrap ((f 0).tdiv 16)).tmod 2 == 1) = (dec f).dv := by rw [t16, Int.tmod_eq_emod_of_nonneg (by omega)]; rfl
    have hdn : (f 0 / 32 == 1) = (dec f).dn := by
      show decide (f 0 / 32 = 1) = decide (f 0 / 32 % 2 = 1)
      congr 1
      exact propext ⟨fun h => by omega, fun h => by omega⟩
    have hdn2 : (IntKind.u8.wrap ((f 0).tdiv 32) == 1) = (dec f).dn := by rw [t32]; exact hdn
    clear t16 t32
    have hgen : IntKind.u64.wrap (dec f).gen = (dec f).gen := IntWalk.u64_in _ ⟨by have := hfit.2.2.2.1; omega, by have := hfit.2.2.2.1; omega⟩
    obtain ⟨b, off, rfl, hb, hc⟩ := rd (by omega)
    have e0 : w.cell? ⟨b, off, none⟩ = some (.int .u8 (f 0)) := hc 0 (by omega)
    have e1 : w.cell? ⟨b, off + 1, none⟩ = some (.int .u8 (f 1)) := hc 1 (by omega)
    have hst : (dec f).st = f 1 := rfl
    have n2 := fun W (hc : ∀ j, j < 20 → World.cell? W ⟨b, off + j, none⟩ = some (.int .u8 (f j))) => (num_c (w := W) (z := 2) (cap := cap - 2) (a := 2) (by omega) (dec f).req (by simp [dec, numAt]) hf (by omega) hc).mono (fun e w' ⟨h1, h2⟩ => And.intro h1 h2.symm)
    have n4 := fun W (hc : ∀ j, j < 20 → World.cell? W ⟨b, off + j, none⟩ = some (.int .u8 (f j))) => (num_c (w := W) (z := 2) (cap := cap - 4) (a := 4) (by omega) (dec f).slot (by simp [dec, numAt]) hf (by omega) hc).mono (fun e w' ⟨h1, h2⟩ => And.intro h1 h2.symm)
    have n6 := fun W (hc : ∀ j, j < 20 → World.cell? W ⟨b, off + j, none⟩ = some (.int .u8 (f j))) => (num_c (w := W) (z := 4) (cap := cap - 6) (a := 6) (by omega) (dec f).gen (by simp [dec, numAt]) hf (by omega) hc).mono (fun e w' ⟨h1, h2⟩ => And.intro h1 h2.symm)
    have n10 := fun W (hc : ∀ j, j < 20 → World.cell? W ⟨b, off + j, none⟩ = some (.int .u8 (f j))) => (num_c (w := W) (z := 2) (cap := cap - 10) (a := 10) (by omega) (dec f).frm (by simp [dec, numAt]) hf (by omega) hc).mono (fun e w' ⟨h1, h2⟩ => And.intro h1 h2.symm)
    have n12 := fun W (hc : ∀ j, j < 20 → World.cell? W ⟨b, off + j, none⟩ = some (.int .u8 (f j))) => (num_c (w := W) (z := 4) (cap := cap - 12) (a := 12) (by omega) (dec f).len (by simp [dec, numAt]) hf (by omega) hc).mono (fun e w' ⟨h1, h2⟩ => And.intro h1 h2.symm)
    obtain ⟨D, hDf⟩ : ∃ D, dec f = D := ⟨_, rfl⟩
    have HDF := Lib.hid hDf
    rw [hDf] at hop hdv hdn hdv2 hdn2 hgen hfit hst wst n2 n4 n6 n10 n12
    rw [← hst] at e1
    have HFIT := Lib.hid hfit
    have RD := Lib.hid rd
    have hcl : 20 ≤ cap := hcap.1
    have m2 : ¬ cap = 2 := by omega
    have m4 : ¬ cap = 4 := by omega
    have m6 : ¬ cap = 6 := by omega
    have m10 : ¬ cap = 10 := by omega
    have m12 : ¬ cap = 12 := by omega
    have k4 : (4 : Int) ≤ (cap : Int) := by omega
    have k6 : (6 : Int) ≤ (cap : Int) := by omega
    have k10 : (10 : Int) ≤ (cap : Int) := by omega
    have k12 : (12 : Int) ≤ (cap : Int) := by omega
    have k16 : (16 : Int) ≤ (cap : Int) := by omega
    have HCAP := Lib.hid hcap
    have N2 := Lib.hid n2
    have N4 := Lib.hid n4
    have N6 := Lib.hid n6
    have N10 := Lib.hid n10
    have N12 := Lib.hid n12
    clear hDf hfit hst rd hcap hD n2 n4 n6 n10 n12
    have s0 : St w None _ [_] := (St.begin w).box 26 Dsc.zero.cells
    have E0 := cell_alloc e0 (.cells #[.int .i64 0, .int .i64 0, .int .i64 0, .int .u64 0, .int .i64 0, .int .i64 0, .bool false, .bool false, .int .i64 0] 26)
    have E1 := cell_alloc e1 (.cells #[.int .i64 0, .int .i64 0, .int .i64 0, .int .u64 0, .int .i64 0, .int .i64 0, .bool false, .bool false, .int .i64 0] 26)
    have HC := Lib.hid (fun j hj => cell_alloc (hc j hj) (.cells #[.int .i64 0, .int .i64 0, .int .i64 0, .int .u64 0, .int .i64 0, .int .i64 0, .bool false, .bool false, .int .i64 0] 26))
    clear hc e0 e1
    have d1 : decide (63 < f 0) = false := decide_eq_false (by omega)
    go_enter Try.func16, Try.ntmps16
    go_wp2_with fail
    have s1 : St w None (w.alloc (.cells #[.int .i64 0, .int .i64 0, .int .i64 0, .int .u64 0, .int .i64 0, .int .i64 0, .bool false, .bool false, .int .i64 0] 26)) [BlkR w.heap.size 26 Dsc.zero.cells] := s0
    have FB : Below (w.alloc (.cells #[.int .i64 0, .int .i64 0, .int .i64 0, .int .u64 0, .int .i64 0, .int .i64 0, .bool false, .bool false, .int .i64 0] 26)).heap.size (w.alloc (.cells #[.int .i64 0, .int .i64 0, .int .i64 0, .int .u64 0, .int .i64 0, .int .i64 0, .bool false, .bool false, .int .i64 0] 26)) (w.alloc (.cells #[.int .i64 0, .int .i64 0, .int .i64 0, .int .u64 0, .int .i64 0, .int .i64 0, .bool false, .bool false, .int .i64 0] 26)) := Below.refl _ _
    have hbz : b < (w.alloc (.cells #[.int .i64 0, .int .i64 0, .int .i64 0, .int .u64 0, .int .i64 0, .int .i64 0, .bool false, .bool false, .int .i64 0] 26)).heap.size := by simp; omega
    generalize (w.alloc (.cells #[.int .i64 0, .int .i64 0, .int .i64 0, .int .u64 0, .int .i64 0, .int .i64 0, .bool false, .bool false, .int .i64 0] 26)) = wA at *
    have S1 := Lib.hid s1
    have HB := Lib.hid (fun (W : World) (h : Below wA.heap.size wA W) (j : Nat) (hj : j < 20) => (h.cell (p := ⟨b, off + j, none⟩) hbz).trans (HC.out j hj))
    clear s1 s0 HC
    go_cut [4] (fun p wx => p = .pointer (some ⟨wA.heap.size, 0, none⟩) ∧ wx = ((wA.alloc (.cells #[.int .i64 D.op, .int .i64 D.req, .int .i64 D.slot, .int .u64 D.gen, .int .i64 D.frm, .int .i64 D.len, .bool D.dv, .bool D.dn, .int .i64 D.st] 26)).drew))
    case first =>
      go_region_held3 (fun W => W.cell? ⟨b, off, none⟩ = some (.int .u8 (f 0)) ∧ W.cell? ⟨b, off + 1, none⟩ = some (.int .u8 D.st) ∧ Below wA.heap.size wA W)
        (first | exact ⟨E0, E1, FB⟩ | exact keep_drew ⟨E0, E1, FB⟩ | assumption | exact keep_drew (by assumption) | exact keep_alloc (by assumption) _ | exact keep_drew (keep_alloc ⟨E0, E1, FB⟩ _) | exact keep_alloc (keep_drew ⟨E0, E1, FB⟩) _)
        (first
          | (go_at_call 25; refine (N2.out _ (HB.out _ (keep_below (p := ⟨b, off, none⟩) (q := ⟨b, off + 1, none⟩) (x := .int .u8 (f 0)) (y := .int .u8 D.st) (by assumption)))).mono ?_; rintro e w2 ⟨rfl, rfl⟩; clear N2)
          | (go_at_call 25; refine (N4.out _ (HB.out _ (keep_below (p := ⟨b, off, none⟩) (q := ⟨b, off + 1, none⟩) (x := .int .u8 (f 0)) (y := .int .u8 D.st) (by assumption)))).mono ?_; rintro e w2 ⟨rfl, rfl⟩; clear N4)
          | (go_at_call 25; refine (N6.out _ (HB.out _ (keep_below (p := ⟨b, off, none⟩) (q := ⟨b, off + 1, none⟩) (x := .int .u8 (f 0)) (y := .int .u8 D.st) (by assumption)))).mono ?_; rintro e w2 ⟨rfl, rfl⟩; clear N6)
          | (go_at_call 25; refine (N10.out _ (HB.out _ (keep_below (p := ⟨b, off, none⟩) (q := ⟨b, off + 1, none⟩) (x := .int .u8 (f 0)) (y := .int .u8 D.st) (by assumption)))).mono ?_; rintro e w2 ⟨rfl, rfl⟩; clear N10)
          | (go_at_call 25; refine (N12.out _ (HB.out _ (keep_below (p := ⟨b, off, none⟩) (q := ⟨b, off + 1, none⟩) (x := .int .u8 (f 0)) (y := .int .u8 D.st) (by assumption)))).mono ?_; rintro e w2 ⟨rfl, rfl⟩; clear N12))
      all_goals
        go_wp2_with fail
        go_meet
        exact ⟨rfl, rfl⟩
    case rest =>
    obtain ⟨rfl, hwx⟩ := hcut
    have S2a := (S1.out.box 26 D.cells).drew
    obtain ⟨g, hgg⟩ : ∃ g, w.heap.size = g := ⟨_, rfl⟩
    obtain ⟨db, hdb⟩ : ∃ db, wA.heap.size = db := ⟨_, rfl⟩
    rw [hgg, hdb] at S2a
    rw [hgg, hdb]
    have s2 : St w None wc [BlkR g 26 Dsc.zero.cells, BlkR db 26 D.cells] := by rw [hwx]; exact S2a
    clear S2a hwx
    obtain ⟨d0, d1, d2, d3, d4, d5, d6, d7, d8⟩ := dsc_cells D wc db (s2.blk 1 rfl)
    by_cases hm : D.may
    · have MB := Lib.hid (rbytes_yes D hm s2)
      unfold Dsc.v at MB
      clear s2
      go_wp2_with fail
      refine MB.out.mono ?_
      rintro e w2 ⟨B, c2, rfl, s3'⟩
      have s3 : St w None w2 [BlkR g 26 Dsc.zero.cells, BlkR db 26 D.cells, _] := s3'
      clear s3' d0 d1 d2 d3 d4 d5 d6 d7 d8
      have rd1 : Rd w2 (some ⟨b, off, none⟩) 20 (fun j => .int .u8 (f j)) := RD.out.below s3.below (Nat.le_refl _)
      have rd2 := rd_bys (s3.lis 2 rfl)
      have hg : ∀ j, j < 20 → 0 ≤ D.fullL.getD j 0 ∧ D.fullL.getD j 0 < 256 := fun j hj => by rw [fullL_at D j hj]; exact full_bd hm j
      have hid : isD f 20 ↔ ∀ j, j < 20 → f j = D.fullL.getD j 0 := by
        have := isD_dec (f := f) (by rw [HDF.out]; exact hm)
        rwa [HDF.out] at this
      by_cases he : isD f 20
      · have EQ := Lib.hid (same_eq (cap := c2) (cap2 := cap) rd2 rd1 (by unfold maxLen; omega) true (decide_eq_true fun j hj => (hid.1 he j hj).symm).symm)
        obtain ⟨rfl, rfl⟩ : d = D ∧ c = 0 := by
          rcases HDD.out with ⟨_, h, h2⟩ | ⟨h, _⟩
          · exact ⟨h.trans HDF.out, h2⟩
          · exact absurd he h
        clear rd1 rd2 hg hid
        have S3 := Lib.hid s3
        clear s3
        go_wp2_with fail
        refine EQ.out.mono ?_
        rintro e w3 ⟨rfl, hb3⟩
        have s4 : St w None w3 [BlkR g 26 Dsc.zero.cells, BlkR db 26 d.cells, _] := S3.out.stay hb3
        obtain ⟨d0, d1, d2, d3, d4, d5, d6, d7, d8⟩ := dsc_cells d _ db (s4.blk 1 rfl)
        obtain ⟨c0, c1, c2, c3, c4, c5, c6, c7, c8⟩ := dsc_cells Dsc.zero _ g (s4.blk 0 rfl)
        have z0 := (s4.blk 0 rfl).frozen 0
        have z1 := (s4.blk 0 rfl).frozen 1
        have z2 := (s4.blk 0 rfl).frozen 2
        have z3 := (s4.blk 0 rfl).frozen 3
        have z4 := (s4.blk 0 rfl).frozen 4
        have z5 := (s4.blk 0 rfl).frozen 5
        have z6 := (s4.blk 0 rfl).frozen 6
        have z7 := (s4.blk 0 rfl).frozen 7
        have z8 := (s4.blk 0 rfl).frozen 8
        have S4 := Lib.hid s4
        clear s4
        go_wp2_with fail
        refine bodyPost_ret (v := .tuple #[d.v, .int .i64 0]) ?_ rfl ⟨rfl, ?_⟩
        · simp [results, go_sem, Dsc.v, c0, c1, c2, c3, c4, c5, c6, c7, c8]
        · exact (((((((((S4.out.set_ 0 rfl 0 _).set_ 0 rfl 1 _).set_ 0 rfl 2 _).set_ 0 rfl 3 _).set_ 0 rfl 4 _).set_ 0 rfl 5 _).set_ 0 rfl 6 _).set_ 0 rfl 7 _).set_ 0 rfl 8 _).below
      · have EQ := Lib.hid (same_eq (cap := c2) (cap2 := cap) rd2 rd1 (by unfold maxLen; omega) false (decide_eq_false fun h => he (hid.2 fun j hj => (h j hj).symm)).symm)
        obtain ⟨rfl, rfl⟩ : d = Dsc.zero ∧ c = 9 := by
          rcases HDD.out with ⟨h, _⟩ | ⟨_, h⟩
          · exact absurd h he
          · exact h
        clear rd1 rd2 hg hid
        have S3 := Lib.hid s3
        clear s3
        go_wp2_with fail
        refine EQ.out.mono ?_
        rintro e w3 ⟨rfl, hb3⟩
        have s4 : St w None w3 [BlkR g 26 Dsc.zero.cells, BlkR db 26 D.cells, _] := S3.out.stay hb3
        obtain ⟨d0, d1, d2, d3, d4, d5, d6, d7, d8⟩ := dsc_cells D _ db (s4.blk 1 rfl)
        obtain ⟨c0, c1, c2, c3, c4, c5, c6, c7, c8⟩ := dsc_cells Dsc.zero _ g (s4.blk 0 rfl)
        have z0 := (s4.blk 0 rfl).frozen 0
        have z1 := (s4.blk 0 rfl).frozen 1
        have z2 := (s4.blk 0 rfl).frozen 2
        have z3 := (s4.blk 0 rfl).frozen 3
        have z4 := (s4.blk 0 rfl).frozen 4
        have z5 := (s4.blk 0 rfl).frozen 5
        have z6 := (s4.blk 0 rfl).frozen 6
        have z7 := (s4.blk 0 rfl).frozen 7
        have z8 := (s4.blk 0 rfl).frozen 8
        have S4 := Lib.hid s4
        clear s4
        go_wp2_with fail
        refine bodyPost_ret (v := .tuple #[Dsc.zero.v, .int .i64 9]) ?_ rfl ⟨rfl, ?_⟩
        · simp [results, go_sem, Dsc.v, Dsc.zero, c0, c1, c2, c3, c4, c5, c6, c7, c8]
        · exact (((((((((S4.out.set_ 0 rfl 0 _).set_ 0 rfl 1 _).set_ 0 rfl 2 _).set_ 0 rfl 3 _).set_ 0 rfl 4 _).set_ 0 rfl 5 _).set_ 0 rfl 6 _).set_ 0 rfl 7 _).set_ 0 rfl 8 _).below
    · obtain ⟨rfl, rfl⟩ : d = Dsc.zero ∧ c = 9 := by
        rcases HDD.out with ⟨h, _⟩ | ⟨_, h⟩
        · exact absurd (HDF.out ▸ h.2.1) hm
        · exact h
      have MB := Lib.hid (fun w => rbytes_no D HFIT.out hm w)
      unfold Dsc.v at MB
      have S2 := Lib.hid s2
      clear s2
      go_wp2_with fail
      refine (MB.out _).mono ?_
      rintro e w2 ⟨rfl, hb2⟩
      have s3 : St w None w2 [BlkR g 26 Dsc.zero.cells, _] := S2.out.stay hb2
      have rd1 : Rd w2 (some ⟨b, off, none⟩) 20 (fun j => .int .u8 (f j)) := RD.out.below s3.below (Nat.le_refl _)
      have EQ := Lib.hid (same_len (A := none) (B := some ⟨b, off, none⟩) (n := 0) (m := 20) (cap := 0) (cap2 := cap) w2 (by omega))
      clear rd1 hb2 d0 d1 d2 d3 d4 d5 d6 d7 d8
      have S3 := Lib.hid s3
      clear s3
      go_wp2_with fail
      refine EQ.out.mono ?_
      rintro e w3 ⟨rfl, rfl⟩
      have s4 : St w None w2 [BlkR g 26 Dsc.zero.cells, _] := S3.out
      obtain ⟨c0, c1, c2, c3, c4, c5, c6, c7, c8⟩ := dsc_cells Dsc.zero _ g (s4.blk 0 rfl)
      have z0 := (s4.blk 0 rfl).frozen 0
      have z1 := (s4.blk 0 rfl).frozen 1
      have z2 := (s4.blk 0 rfl).frozen 2
      have z3 := (s4.blk 0 rfl).frozen 3
      have z4 := (s4.blk 0 rfl).frozen 4
      have z5 := (s4.blk 0 rfl).frozen 5
      have z6 := (s4.blk 0 rfl).frozen 6
      have z7 := (s4.blk 0 rfl).frozen 7
      have z8 := (s4.blk 0 rfl).frozen 8
      have S4 := Lib.hid s4
      clear s4
      go_wp2_with fail
      refine bodyPost_ret (v := .tuple #[Dsc.zero.v, .int .i64 9]) ?_ rfl ⟨rfl, ?_⟩
      · simp [results, go_sem, Dsc.v, Dsc.zero, c0, c1, c2, c3, c4, c5, c6, c7, c8]
      · exact (((((((((S4.out.set_ 0 rfl 0 _).set_ 0 rfl 1 _).set_ 0 rfl 2 _).set_ 0 rfl 3 _).set_ 0 rfl 4 _).set_ 0 rfl 5 _).set_ 0 rfl 6 _).set_ 0 rfl 7 _).set_ 0 rfl 8 _).below
  · obtain ⟨rfl, rfl⟩ : d = Dsc.zero ∧ c = 9 := by
      rcases hD with ⟨h, _⟩ | ⟨_, h⟩
      · exfalso
        refine hn ⟨h.1, ?_⟩
        have e := h.2.2 0 (by omega)
        have := marks_bd h.2.1
        rw [show (dec f).full 0 = (dec f).marks from rfl] at e
        omega
      · exact h
    exact rfrom_small rd (by by_cases h : n = 20
                             · exact Or.inr ⟨h, by omega⟩
                             · exact Or.inl h)
end
end Go.Proofs.Ytninpnlmmaleaaa
