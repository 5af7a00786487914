/-
  For every descriptor DescTells answers true, and changes nothing: its bytes are what the document says, and are read again. No condition.
-/
import Derived.Test.YtninpnlmmaleaaaRows
import Derived.Test.YtninpnlmmaleaaaFr
import Derived.Test.YtninpnlmmaleaaaDescT
import Derived.Test.YtninpnlmmaleaaaOpen
import Derived.Deep.RegionHeld3
namespace Go.Proofs.Ytninpnlmmaleaaa.descTells
open Go.ChangeShapes Go.WideShapes Go.ChangeAt Go.RowKit
set_option linter.unusedVariables false
theorem own : ownKnob Try.prog.godebug = none := by kernel_rfl
theorem laid : laidOutB Try.prog = true := by kernel_rfl
set_option maxRecDepth 100000
set_option maxHeartbeats 1000000
theorem walk (D : Dsc) (hf : D.fits) (w : World) : Calls Try.prog 3 #[D.v] w fun r w' => r = .returned (.bool true) ∧ Below w.heap.size w w' := by
  have HF := Lib.hid hf
  clear hf
  by_cases hm : D.may
  · unfold Dsc.v
    go_enter Try.func3, Try.ntmps3
    go_wp2_with fail
    have s0 : St w None _ [_] := (St.begin w).box 26 D.cells
    refine (looks (awake_any _) s0).mono ?_
    rintro e w1 ⟨rfl, s1⟩
    clear s0
    generalize w.heap.size = g at *
    obtain ⟨c0, c1, c2, c3, c4, c5, c6, c7, c8⟩ := dsc_cells D w1 g (s1.blk 0 rfl)
    go_wp2_with fail
    refine (bytes_yes D hm s1).mono ?_
    rintro e w2 ⟨B, c, rfl, s2'⟩
    have s2 : St w None w2 [_, LisR 5 1 (.slice B 20 c) 20 (bys D.fullL)] := s2'
    clear s1 s2' c0 c1 c2 c3 c4 c5 c6 c7 c8
    obtain ⟨c0, c1, c2, c3, c4, c5, c6, c7, c8⟩ := dsc_cells D w2 g (s2.blk 0 rfl)
    have Q0 := Lib.hid s2.drew
    clear s2
    go_wp2_with fail
    go_region_held3 (fun W => W.cell? ⟨g, 0, none⟩ = some (.int .i64 D.op) ∧ W.cell? ⟨g, 1, none⟩ = some (.int .i64 D.req) ∧ W.cell? ⟨g, 2, none⟩ = some (.int .i64 D.slot) ∧ W.cell? ⟨g, 3, none⟩ = some (.int .u64 D.gen) ∧ W.cell? ⟨g, 4, none⟩ = some (.int .i64 D.frm) ∧ W.cell? ⟨g, 5, none⟩ = some (.int .i64 D.len) ∧ W.cell? ⟨g, 6, none⟩ = some (.bool D.dv) ∧ W.cell? ⟨g, 7, none⟩ = some (.bool D.dn) ∧ W.cell? ⟨g, 8, none⟩ = some (.int .i64 D.st)) (go_keep)
      (first
        | (go_at_call 11; refine (looks (may_c D _ HF.out true (decide_eq_true hm).symm) Q0.out).mono ?_; rintro e w3 ⟨rfl, t⟩; have q3 := dsc_cells D w3 g (t.blk 0 rfl); have Q1 := Lib.hid t; clear t Q0)
        | (go_at_call 12; refine (looks (rmay_c D _ HF.out true (decide_eq_true hm).symm) Q1.out).mono ?_; rintro e w4 ⟨rfl, t⟩; have q4 := dsc_cells D w4 g (t.blk 0 rfl); have Q2 := Lib.hid t; clear t Q1)
        | (go_at_call 14; refine (rbytes_yes D hm Q2.out).mono ?_; rintro e w5 ⟨B2, c2, rfl, t⟩; have q5 := dsc_cells D w5 g (t.blk 0 rfl); have Q3 := Lib.hid t; clear t Q2)
        | (go_at_call 13; refine (looks (same_eq (rd_bys (Q3.out.lis 1 rfl)) (rd_bys (Q3.out.lis 2 rfl)) (by unfold maxLen; omega) true (decide_eq_true fun j hj => rfl).symm) Q3.out).mono ?_; rintro e w6 ⟨rfl, t⟩; have q6 := dsc_cells D w6 g (t.blk 0 rfl); have Q4 := Lib.hid t; clear t Q3))
    obtain ⟨p0, p1, p2, p3, p4, p5, p6, p7, p8⟩ := q6
    go_wp2_with fail
    refine (looks (rmay_c D _ HF.out true (decide_eq_true hm).symm) Q4.out).mono ?_
    rintro e w7 ⟨rfl, s7⟩
    go_wp2_with fail
    refine (from_full hm s7 1 rfl).mono ?_
    rintro e w8 ⟨rfl, s8⟩
    unfold Dsc.v
    have s9 : St w None (w8.alloc (.cells #[.int .i64 D.op, .int .i64 D.req, .int .i64 D.slot, .int .u64 D.gen, .int .i64 D.frm, .int .i64 D.len, .bool D.dv, .bool D.dn, .int .i64 D.st] 26)) [_, _, _, BlkR w8.heap.size 26 D.cells] := s8.box 26 D.cells
    obtain ⟨x0, x1, x2, x3, x4, x5, x6, x7, x8⟩ := dsc_cells D _ g (s9.blk 0 rfl)
    go_wp2_with fail
    go_ret
    exact ⟨rfl, s9.below⟩
  · unfold Dsc.v
    have NB := Lib.hid (fun w => bytes_no D HF.out hm w)
    go_enter Try.func3, Try.ntmps3
    go_wp2_with fail
    have s0 : St w None _ [_] := (St.begin w).box 26 D.cells
    refine (looks (awake_any _) s0).mono ?_
    rintro e w1 ⟨rfl, s1⟩
    clear s0
    generalize w.heap.size = g at *
    obtain ⟨c0, c1, c2, c3, c4, c5, c6, c7, c8⟩ := dsc_cells D w1 g (s1.blk 0 rfl)
    go_wp2_with fail
    refine (looks (NB.out _) s1).mono ?_
    rintro e w2 ⟨rfl, s2⟩
    clear s1 c0 c1 c2 c3 c4 c5 c6 c7 c8
    obtain ⟨c0, c1, c2, c3, c4, c5, c6, c7, c8⟩ := dsc_cells D w2 g (s2.blk 0 rfl)
    have Q0 := Lib.hid s2.drew
    clear s2
    go_wp2_with fail
    go_region_held3 (fun W => W.cell? ⟨g, 0, none⟩ = some (.int .i64 D.op) ∧ W.cell? ⟨g, 1, none⟩ = some (.int .i64 D.req) ∧ W.cell? ⟨g, 2, none⟩ = some (.int .i64 D.slot) ∧ W.cell? ⟨g, 3, none⟩ = some (.int .u64 D.gen) ∧ W.cell? ⟨g, 4, none⟩ = some (.int .i64 D.frm) ∧ W.cell? ⟨g, 5, none⟩ = some (.int .i64 D.len) ∧ W.cell? ⟨g, 6, none⟩ = some (.bool D.dv) ∧ W.cell? ⟨g, 7, none⟩ = some (.bool D.dn) ∧ W.cell? ⟨g, 8, none⟩ = some (.int .i64 D.st)) (go_keep)
      (first
        | (go_at_call 11; refine (looks (may_c D _ HF.out false (decide_eq_false hm).symm) Q0.out).mono ?_; rintro e w3 ⟨rfl, t⟩; have q3 := dsc_cells D w3 g (t.blk 0 rfl); have Q1 := Lib.hid t; clear t Q0)
        | (go_at_call 12; refine (looks (rmay_c D _ HF.out false (decide_eq_false hm).symm) Q1.out).mono ?_; rintro e w4 ⟨rfl, t⟩; have q4 := dsc_cells D w4 g (t.blk 0 rfl); have Q2 := Lib.hid t; clear t Q1)
        | (go_at_call 14; refine (looks (rbytes_no D HF.out hm _) Q2.out).mono ?_; rintro e w5 ⟨rfl, t⟩; have q5 := dsc_cells D w5 g (t.blk 0 rfl); have Q3 := Lib.hid t; clear t Q2)
        | (go_at_call 13; refine (looks (same_eq (n := 0) (f := fun _ => 0) (g := fun _ => 0) (fun h => absurd h (by omega)) (fun h => absurd h (by omega)) (by unfold maxLen; omega) true (decide_eq_true fun j hj => rfl).symm) Q3.out).mono ?_; rintro e w6 ⟨rfl, t⟩; have q6 := dsc_cells D w6 g (t.blk 0 rfl); have Q4 := Lib.hid t; clear t Q3))
    obtain ⟨p0, p1, p2, p3, p4, p5, p6, p7, p8⟩ := q6
    go_wp2_with fail
    refine (looks (rmay_c D _ HF.out false (decide_eq_false hm).symm) Q4.out).mono ?_
    rintro e w7 ⟨rfl, s7⟩
    go_wp2_with fail
    go_ret
    exact ⟨rfl, s7.below⟩

set_option maxRecDepth 100000 in
theorem lifted (os : Os) (started : os.Started) (H : Type) (enc : TypeId × Value → H) :
    ReturnsInHanded {} Try.checked os 3 .any (Rows.descTellsSpec.pre6 enc Try.prog Try.f3 Rows.descTellsRow.domain false) (Rows.descTellsSpec.post enc Try.prog Try.f3 false true false false) := by
  refine law_lifted (C := Try.checked) (tb := 4) own started (by kernel_rfl) Try.func3
    (ChangeSpec.witness6 (enc := enc) (C := Try.checked) false ⟨#[], #[.agg #[.int .i64 0, .int .i64 0, .int .i64 0, .int .u64 0, .int .i64 0, .int .i64 0, .bool false, .bool false, .int .i64 0]], []⟩ 8 (by kernel_rfl) (by kernel_rfl) (by kernel_rfl) (by kernel_rfl)) laid (by kernel_rfl) (by kernel_rfl) Try.underlying4 rfl ?_
  intro W base args ds ps hval0 hA0 hlt
  have hval : ∀ (j : Nat) t v, Try.f3.params[j]? = some t → args[j]? = some v → Value.okWide Try.prog W .any base t v := hval0
  have hA : DataW.TrodAll enc Try.prog W 0 (fun _ => true) true Try.f3.params.toList args.toList ds ps := hA0
  clear hA0 hval0
  rw [Try.params3] at hA hval
  obtain ⟨v0, vs0, d0, ds0, p0, q0, hargs, rfl, rfl, h0, r0⟩ := trodAll_cons hA
  obtain ⟨rfl, rfl, rfl⟩ := trodAll_nil r0
  obtain rfl : args = #[v0] := by cases args; simp_all
  obtain ⟨cs0, rfl, sz0, ok0⟩ := open_flat (ts := [3, 3, 3, 22, 3, 3, 4, 4, 3]) (Or.inl ⟨_, Try.underlying26⟩) (by kernel_rfl) (by kernel_rfl) (hval 0 26 v0 rfl rfl)
  obtain ⟨c0_0, c0_1, c0_2, c0_3, c0_4, c0_5, c0_6, c0_7, c0_8, rfl⟩ := size9 sz0
  obtain ⟨a0_0, rfl, w0_0⟩ := cell_int Try.underlying3 (ok0 0 _ _ rfl rfl)
  obtain ⟨a0_1, rfl, w0_1⟩ := cell_int Try.underlying3 (ok0 1 _ _ rfl rfl)
  obtain ⟨a0_2, rfl, w0_2⟩ := cell_int Try.underlying3 (ok0 2 _ _ rfl rfl)
  obtain ⟨a0_3, rfl, w0_3⟩ := cell_int Try.underlying22 (ok0 3 _ _ rfl rfl)
  obtain ⟨a0_4, rfl, w0_4⟩ := cell_int Try.underlying3 (ok0 4 _ _ rfl rfl)
  obtain ⟨a0_5, rfl, w0_5⟩ := cell_int Try.underlying3 (ok0 5 _ _ rfl rfl)
  obtain ⟨a0_6, rfl⟩ := cell_bool Try.underlying4 (ok0 6 _ _ rfl rfl)
  obtain ⟨a0_7, rfl⟩ := cell_bool Try.underlying4 (ok0 7 _ _ rfl rfl)
  obtain ⟨a0_8, rfl, w0_8⟩ := cell_int Try.underlying3 (ok0 8 _ _ rfl rfl)
  refine ⟨⟨rfl, rfl, rfl⟩, ?_⟩
  exact walk ⟨a0_0, a0_1, a0_2, a0_3, a0_4, a0_5, a0_6, a0_7, a0_8⟩ ⟨bounds_i64 w0_0, bounds_i64 w0_1, bounds_i64 w0_2, bounds_u64 w0_3, bounds_i64 w0_4, bounds_i64 w0_5, bounds_i64 w0_8⟩ W

theorem over : Rows.descTellsRow.holds Try.pinned (OpenSpec.ofChange Rows.descTellsSpec) :=
  OpenClaim.holds_of_wide 3 Try.f3 rfl rfl rfl rfl rfl rfl rfl ⟨rfl, rfl, rfl, rfl, rfl⟩ rfl rfl rfl rfl rfl (by kernel_rfl) Try.func3 (by kernel_rfl)
    (of_decide_eq_true (by kernel_rfl)) (by unfold Func.isWrapper; first | (rw [if_pos (by decide +kernel)]; kernel_rfl) | (rw [if_neg (by decide +kernel)]; exact ⟨rfl, rfl⟩))
    (fun os started H enc _ => lifted os started H enc)
theorem proved : Rows.DescTellsSaid := over
#print axioms proved
end Go.Proofs.Ytninpnlmmaleaaa.descTells
