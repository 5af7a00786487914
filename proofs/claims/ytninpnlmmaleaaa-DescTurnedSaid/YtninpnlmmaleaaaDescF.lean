/- Layer 9: a descriptor read, the program's. -/
import Derived.Test.YtninpnlmmaleaaaDescR
namespace Go.Proofs.Ytninpnlmmaleaaa
open Go.RowKit
set_option linter.unusedVariables false
set_option maxRecDepth 100000
set_option maxHeartbeats 1000000
def Dsc.zero : Dsc := ⟨0, 0, 0, 0, 0, 0, false, false, 0⟩
theorem nums7 (f : Nat → Int) : numsAt f 0 [1, 1, 2, 2, 4, 2, 4] = [f 0, (dec f).st, (dec f).req, (dec f).slot, (dec f).gen, (dec f).frm, (dec f).len] := by
  simp [numsAt, numAt, dec]
/-- What twenty bytes tell fits. -/
theorem dec_fits {f : Nat → Int} (hf : ∀ j, j < 20 → 0 ≤ f j ∧ f j < 256) : (dec f).fits := by
  have h0 := hf 0 (by omega)
  have h1 := hf 1 (by omega)
  have h2 := hf 2 (by omega)
  have h3 := hf 3 (by omega)
  have h4 := hf 4 (by omega)
  have h5 := hf 5 (by omega)
  have h6 := hf 6 (by omega)
  have h7 := hf 7 (by omega)
  have h8 := hf 8 (by omega)
  have h9 := hf 9 (by omega)
  have h10 := hf 10 (by omega)
  have h11 := hf 11 (by omega)
  have h12 := hf 12 (by omega)
  have h13 := hf 13 (by omega)
  have h14 := hf 14 (by omega)
  have h15 := hf 15 (by omega)
  unfold Dsc.fits dec
  dsimp only
  omega
section
variable {w0 w : World} {S0 : Nat → Prop} {L : List Res}
theorem St.box2 (h : St w0 S0 w L) (t1 t2 : TypeId) (c1 c2 : Array Value) : St w0 S0 ((w.alloc (.cells c1 t1)).alloc (.cells c2 t2)) (L ++ [BlkR w.heap.size t1 c1] ++ [BlkR (w.heap.size + 1) t2 c2]) := by
  have := (h.box t1 c1).box t2 c2
  rwa [show (w.alloc (.cells c1 t1)).heap.size = w.heap.size + 1 by simp] at this
theorem read7 {A : Option Addr} {cap : Nat} {f : Nat → Int} (rd : Rd w A 20 (fun j => .int .u8 (f j))) (hf : ∀ j, j < 20 → 0 ≤ f j ∧ f j < 256) (hcap : 20 ≤ cap ∧ cap ≤ maxLen) :
    Calls Try.prog 23 #[.slice A 20 cap, .slice (some ⟨w.heap.size + 1, 0, none⟩) 7 7] ((w.alloc (.cells #[.int .i64 0, .int .i64 0, .int .i64 0, .int .u64 0, .int .i64 0, .int .i64 0, .bool false, .bool false, .int .i64 0] 26)).alloc (.cells #[.int .i64 1, .int .i64 1, .int .i64 2, .int .i64 2, .int .i64 4, .int .i64 2, .int .i64 4] 3))
      fun e w' => ∃ b off cap', e = .returned (.slice (some ⟨b, off, none⟩) 7 cap') ∧ St w None w' [BlkR w.heap.size 26 Dsc.zero.cells, LisR 3 1 (.slice (some ⟨b, off, none⟩) 7 cap') 7 (i64s [f 0, (dec f).st, (dec f).req, (dec f).slot, (dec f).gen, (dec f).frm, (dec f).len])] := by
  have s0 : St w None _ [BlkR w.heap.size 26 Dsc.zero.cells, BlkR (w.heap.size + 1) 3 (zcs [1, 1, 2, 2, 4, 2, 4]).toArray] := (St.begin w).box2 26 3 Dsc.zero.cells (zcs [1, 1, 2, 2, 4, 2, 4]).toArray
  have h := read_c [1, 1, 2, 2, 4, 2, 4] (by decide) (by decide) 7 rfl (by omega) rd hf hcap 7 s0
  refine h.mono ?_
  rintro e w' ⟨B, c, rfl, s⟩
  rw [nums7] at s
  obtain ⟨A', cap', hv, -, -, -, hcell⟩ := s.lis_cells 2 rfl
  injection hv with hv1 _ hv2
  subst hv1 hv2
  obtain ⟨b, off, rfl, hcc⟩ := hcell.resolve_left (by omega)
  exact ⟨b, off, c, rfl, s.drop 1 (by simp)⟩
theorem bytes_no (d : Dsc) (hf : d.fits) (hd : ¬ d.may) (w : World) : Calls Try.prog 10 #[d.v] w fun e w' => e = .returned (.slice none 0 0) ∧ Below w.heap.size w w' := by
  have M := Lib.hid (fun (w : World) => may_c d w hf false (decide_eq_false hd).symm)
  unfold Dsc.v at M ⊢
  go_enter Try.func10, Try.ntmps10
  go_wp2_with fail
  have s0 : St w None _ [_] := (St.begin w).box 26 d.cells
  refine (M.out _).mono ?_
  rintro e w1 ⟨rfl, hb⟩
  have s1 := s0.stay hb
  go_wp2_with fail
  go_ret
  exact ⟨rfl, s1.below⟩
theorem isD_dec {f : Nat → Int} (hm : (dec f).may) : isD f 20 ↔ ∀ j, j < 20 → f j = (dec f).fullL.getD j 0 := by
  unfold isD
  constructor
  · rintro ⟨_, _, h⟩ j hj; rw [fullL_at _ j hj]; exact h j hj
  · intro h; exact ⟨rfl, hm, fun j hj => by rw [h j hj, fullL_at _ j hj]⟩
theorem from_c {A : Option Addr} {n cap : Nat} {f : Nat → Int} (rd : Rd w A n (fun j => .int .u8 (f j))) (hf : ∀ j, j < n → 0 ≤ f j ∧ f j < 256) (hcap : n ≤ cap ∧ cap ≤ maxLen) (d : Dsc) (c : Int) (hD : (isD f n ∧ d = dec f ∧ c = 0) ∨ (¬ isD f n ∧ d = Dsc.zero ∧ c = 9)) :
    Calls Try.prog 15 #[.slice A n cap] w fun e w' => e = .returned (.tuple #[d.v, .int .i64 c]) ∧ Below w.heap.size w w' := by
  by_cases hn : n = 20
  · subst hn
    have HDD := Lib.hid hD
    have hfit := dec_fits hf
    have h0 := hf 0 (by omega)
    have hdm := and_marks' h0
    have hop : (f 0).tmod 16 = (dec f).op := Int.tmod_eq_emod_of_nonneg h0.1
    have hdv : (bits BinOp.and IntKind.i64 (f 0) 16 != 0) = (dec f).dv := hdm.1
    have hdn : (bits BinOp.and IntKind.i64 (f 0) 32 != 0) = (dec f).dn := hdm.2
    have hgen : IntKind.u64.wrap (dec f).gen = (dec f).gen := IntWalk.u64_in _ ⟨by have := hfit.2.2.2.1; omega, by have := hfit.2.2.2.1; omega⟩
    clear hD hdm
    obtain ⟨D, hDf⟩ : ∃ D, dec f = D := ⟨_, rfl⟩
    have HDF := Lib.hid hDf
    rw [hDf] at hop hdv hdn hgen hfit
    have HFIT := Lib.hid hfit
    clear hDf hfit
    have RD := Lib.hid rd
    have HCAP := Lib.hid hcap
    clear rd hcap
    go_enter Try.func15, Try.ntmps15
    go_wp2_with fail
    refine (read7 RD.out hf HCAP.out).mono ?_
    rintro e w1 ⟨b, off, cB, rfl, s1⟩
    rw [HDF.out] at s1
    generalize w.heap.size = g at *
    obtain ⟨A', cap', hv, -, -, -, hcell⟩ := s1.lis_cells 1 rfl
    injection hv with hv1 _ hv2
    subst hv1 hv2
    obtain ⟨b', off', hbo, hcc⟩ := hcell.resolve_left (by omega)
    obtain ⟨rfl, rfl⟩ : b = b' ∧ off = off' := by simpa using hbo
    have q0 : w1.cell? ⟨b, off, none⟩ = some (.int .i64 (f 0)) := hcc 0 _ rfl
    have q1 := hcc 1 _ rfl
    have q2 := hcc 2 _ rfl
    have q3 := hcc 3 _ rfl
    have q4 := hcc 4 _ rfl
    have q5 := hcc 5 _ rfl
    have q6 := hcc 6 _ rfl
    have S1 := Lib.hid s1
    clear s1 hcell hcc hbo
    go_wp2_with fail
    go_region_held3 (fun W => W.cell? ⟨b, off, none⟩ = some (.int .i64 (f 0)) ∧ W.cell? ⟨b, off + 1, none⟩ = some (.int .i64 D.st) ∧ W.cell? ⟨b, off + 2, none⟩ = some (.int .i64 D.req) ∧ W.cell? ⟨b, off + 3, none⟩ = some (.int .i64 D.slot) ∧ W.cell? ⟨b, off + 4, none⟩ = some (.int .i64 D.gen) ∧ W.cell? ⟨b, off + 5, none⟩ = some (.int .i64 D.frm) ∧ W.cell? ⟨b, off + 6, none⟩ = some (.int .i64 D.len)) (go_keep)
      (fail)
    have s2 : St w None ((w1.alloc (.cells #[.int .i64 D.op, .int .i64 D.req, .int .i64 D.slot, .int .u64 D.gen, .int .i64 D.frm, .int .i64 D.len, .bool D.dv, .bool D.dn, .int .i64 D.st] 26)).drew) [_, _, BlkR _ 26 D.cells] := (S1.out.box 26 D.cells).drew
    generalize w1.heap.size = db at *
    generalize ((w1.alloc (.cells #[.int .i64 D.op, .int .i64 D.req, .int .i64 D.slot, .int .u64 D.gen, .int .i64 D.frm, .int .i64 D.len, .bool D.dv, .bool D.dn, .int .i64 D.st] 26)).drew) = wD at *
    obtain ⟨d0, d1, d2, d3, d4, d5, d6, d7, d8⟩ := dsc_cells D _ db (s2.blk 2 rfl)
    clear q0 q1 q2 q3 q4 q5 q6
    by_cases hm : D.may
    · have MB := Lib.hid (bytes_yes D hm s2)
      unfold Dsc.v at MB
      clear s2
      go_wp2_with fail
      refine MB.out.mono ?_
      rintro e w2 ⟨B, c2, rfl, s3'⟩
      have s3 : St w None w2 [BlkR g 26 Dsc.zero.cells, _, BlkR db 26 D.cells, _] := s3'
      clear s3' d0 d1 d2 d3 d4 d5 d6 d7 d8
      have rd1 : Rd w2 A 20 (fun j => .int .u8 (f j)) := RD.out.below s3.below (Nat.le_refl _)
      have rd2 := rd_bys (s3.lis 3 rfl)
      have hg : ∀ j, j < 20 → 0 ≤ D.fullL.getD j 0 ∧ D.fullL.getD j 0 < 256 := fun j hj => by rw [fullL_at D j hj]; exact full_bd hm j
      have hid : isD f 20 ↔ ∀ j, j < 20 → f j = D.fullL.getD j 0 := by
        have := isD_dec (f := f) (by rw [HDF.out]; exact hm)
        rwa [HDF.out] at this
      by_cases he : isD f 20
      · have EQ := Lib.hid (equal_c (cap := cap) (cap2 := c2) rd1 rd2 (by omega) hf hg true (decide_eq_true (hid.1 he)).symm)
        obtain ⟨rfl, rfl⟩ : d = D ∧ c = 0 := by
          rcases HDD.out with ⟨_, h, h2⟩ | ⟨h, _⟩
          · exact ⟨h.trans HDF.out, h2⟩
          · exact absurd he h
        clear rd1 rd2 hg hid
        obtain ⟨d0, d1, d2, d3, d4, d5, d6, d7, d8⟩ := dsc_cells d _ db (s3.blk 2 rfl)
        obtain ⟨c0, c1, c2, c3, c4, c5, c6, c7, c8⟩ := dsc_cells Dsc.zero _ g (s3.blk 0 rfl)
        have z0 := (s3.blk 0 rfl).frozen 0
        have z1 := (s3.blk 0 rfl).frozen 1
        have z2 := (s3.blk 0 rfl).frozen 2
        have z3 := (s3.blk 0 rfl).frozen 3
        have z4 := (s3.blk 0 rfl).frozen 4
        have z5 := (s3.blk 0 rfl).frozen 5
        have z6 := (s3.blk 0 rfl).frozen 6
        have z7 := (s3.blk 0 rfl).frozen 7
        have z8 := (s3.blk 0 rfl).frozen 8
        have S3 := Lib.hid s3
        clear s3
        go_wp2_with fail
        refine EQ.out.mono ?_
        rintro e w3 ⟨rfl, rfl⟩
        go_wp2_with fail
        refine bodyPost_ret (v := .tuple #[d.v, .int .i64 0]) ?_ rfl ⟨rfl, ?_⟩
        · simp [results, go_sem, Dsc.v, c0, c1, c2, c3, c4, c5, c6, c7, c8]
        · exact (((((((((S3.out.set_ 0 rfl 0 _).set_ 0 rfl 1 _).set_ 0 rfl 2 _).set_ 0 rfl 3 _).set_ 0 rfl 4 _).set_ 0 rfl 5 _).set_ 0 rfl 6 _).set_ 0 rfl 7 _).set_ 0 rfl 8 _).below
      · have EQ := Lib.hid (equal_c (cap := cap) (cap2 := c2) rd1 rd2 (by omega) hf hg false (decide_eq_false fun h => he (hid.2 h)).symm)
        obtain ⟨rfl, rfl⟩ : d = Dsc.zero ∧ c = 9 := by
          rcases HDD.out with ⟨h, _⟩ | ⟨_, h⟩
          · exact absurd h he
          · exact h
        clear rd1 rd2 hg hid
        obtain ⟨c0, c1, c2, c3, c4, c5, c6, c7, c8⟩ := dsc_cells Dsc.zero _ g (s3.blk 0 rfl)
        have z0 := (s3.blk 0 rfl).frozen 0
        have z1 := (s3.blk 0 rfl).frozen 1
        have z2 := (s3.blk 0 rfl).frozen 2
        have z3 := (s3.blk 0 rfl).frozen 3
        have z4 := (s3.blk 0 rfl).frozen 4
        have z5 := (s3.blk 0 rfl).frozen 5
        have z6 := (s3.blk 0 rfl).frozen 6
        have z7 := (s3.blk 0 rfl).frozen 7
        have z8 := (s3.blk 0 rfl).frozen 8
        have S3 := Lib.hid s3
        clear s3
        go_wp2_with fail
        refine EQ.out.mono ?_
        rintro e w3 ⟨rfl, rfl⟩
        go_wp2_with fail
        refine bodyPost_ret (v := .tuple #[Dsc.zero.v, .int .i64 9]) ?_ rfl ⟨rfl, ?_⟩
        · simp [results, go_sem, Dsc.v, Dsc.zero, c0, c1, c2, c3, c4, c5, c6, c7, c8]
        · exact (((((((((S3.out.set_ 0 rfl 0 _).set_ 0 rfl 1 _).set_ 0 rfl 2 _).set_ 0 rfl 3 _).set_ 0 rfl 4 _).set_ 0 rfl 5 _).set_ 0 rfl 6 _).set_ 0 rfl 7 _).set_ 0 rfl 8 _).below
    · obtain ⟨rfl, rfl⟩ : d = Dsc.zero ∧ c = 9 := by
        rcases HDD.out with ⟨h, _⟩ | ⟨_, h⟩
        · exact absurd (HDF.out ▸ h.2.1) hm
        · exact h
      have MB := Lib.hid (fun w => bytes_no D HFIT.out hm w)
      unfold Dsc.v at MB
      have S2 := Lib.hid s2
      clear s2
      go_wp2_with fail
      refine (MB.out _).mono ?_
      rintro e w2 ⟨rfl, hb2⟩
      have s3 : St w None w2 [BlkR g 26 Dsc.zero.cells, _, _] := S2.out.stay hb2
      have rd1 : Rd w2 A 20 (fun j => .int .u8 (f j)) := RD.out.below s3.below (Nat.le_refl _)
      have EQ := Lib.hid (equal_nil (cap := cap) rd1 (by omega))
      clear rd1 hb2 d0 d1 d2 d3 d4 d5 d6 d7 d8
      obtain ⟨c0, c1, c2, c3, c4, c5, c6, c7, c8⟩ := dsc_cells Dsc.zero _ g (s3.blk 0 rfl)
      have z0 := (s3.blk 0 rfl).frozen 0
      have z1 := (s3.blk 0 rfl).frozen 1
      have z2 := (s3.blk 0 rfl).frozen 2
      have z3 := (s3.blk 0 rfl).frozen 3
      have z4 := (s3.blk 0 rfl).frozen 4
      have z5 := (s3.blk 0 rfl).frozen 5
      have z6 := (s3.blk 0 rfl).frozen 6
      have z7 := (s3.blk 0 rfl).frozen 7
      have z8 := (s3.blk 0 rfl).frozen 8
      have S3 := Lib.hid s3
      clear s3
      go_wp2_with fail
      refine EQ.out.mono ?_
      rintro e w3 ⟨rfl, rfl⟩
      go_wp2_with fail
      refine bodyPost_ret (v := .tuple #[Dsc.zero.v, .int .i64 9]) ?_ rfl ⟨rfl, ?_⟩
      · simp [results, go_sem, Dsc.v, Dsc.zero, c0, c1, c2, c3, c4, c5, c6, c7, c8]
      · exact (((((((((S3.out.set_ 0 rfl 0 _).set_ 0 rfl 1 _).set_ 0 rfl 2 _).set_ 0 rfl 3 _).set_ 0 rfl 4 _).set_ 0 rfl 5 _).set_ 0 rfl 6 _).set_ 0 rfl 7 _).set_ 0 rfl 8 _).below
  · have d1 : ((n : Int) != 20) = true := by simp [bne]; omega
    obtain ⟨rfl, rfl⟩ : d = Dsc.zero ∧ c = 9 := by
      rcases hD with ⟨h, _⟩ | ⟨_, h⟩
      · exact absurd h.1 hn
      · exact h
    clear hD
    go_enter Try.func15, Try.ntmps15
    go_wp2_with fail
    obtain ⟨c0, c1, c2, c3, c4, c5, c6, c7, c8⟩ := dsc_cells Dsc.zero _ w.heap.size (Blk.new w 26 Dsc.zero.cells)
    refine bodyPost_ret (v := .tuple #[Dsc.zero.v, .int .i64 9]) ?_ rfl ⟨rfl, (Below.refl _ _).alloc (Nat.le_refl _) _⟩
    simp [results, go_sem, Dsc.zero, Dsc.v]
end
end Go.Proofs.Ytninpnlmmaleaaa
