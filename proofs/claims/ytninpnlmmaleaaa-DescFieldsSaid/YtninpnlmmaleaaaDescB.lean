/- Layer 9: a descriptor's bytes, the program's. -/
import Derived.Test.YtninpnlmmaleaaaDescW
import Derived.Test.YtninpnlmmaleaaaDescP
import Derived.Test.YtninpnlmmaleaaaDescC
import Derived.Deep.RegionWith
import Derived.Deep.RegionHeld3
namespace Go.Proofs.Ytninpnlmmaleaaa
open Go.RowKit
set_option linter.unusedVariables false
set_option maxRecDepth 100000
set_option maxHeartbeats 1000000
def Dsc.nums (d : Dsc) : List (Int × Nat) := [(d.marks, 1), (d.st, 1), (d.req, 2), (d.slot, 2), (d.gen, 4), (d.frm, 2), (d.len, 4), (0, 1)]
theorem pre_be {d : Dsc} (h : d.may) : beAll d.nums = d.preL := by
  have hm := marks_bd h
  obtain ⟨h1, h2, h3, h4, h5, h6, h7, _⟩ := h
  show [d.marks / 256 ^ 0 % 256, d.st / 256 ^ 0 % 256, d.req / 256 ^ 1 % 256, d.req / 256 ^ 0 % 256, d.slot / 256 ^ 1 % 256, d.slot / 256 ^ 0 % 256, d.gen / 256 ^ 3 % 256, d.gen / 256 ^ 2 % 256, d.gen / 256 ^ 1 % 256, d.gen / 256 ^ 0 % 256, d.frm / 256 ^ 1 % 256, d.frm / 256 ^ 0 % 256, d.len / 256 ^ 3 % 256, d.len / 256 ^ 2 % 256, d.len / 256 ^ 1 % 256, d.len / 256 ^ 0 % 256, (0 : Int) / 256 ^ 0 % 256] = [d.marks, d.st, d.req / 256, d.req % 256, d.slot / 256, d.slot % 256, d.gen / 16777216, d.gen / 65536 % 256, d.gen / 256 % 256, d.gen % 256, d.frm / 256, d.frm % 256, 0, d.len / 65536, d.len / 256 % 256, d.len % 256, 0]
  generalize d.marks = m at *
  simp only [List.cons.injEq]
  refine ⟨?_, ?_, ?_, ?_, ?_, ?_, ?_, ?_, ?_, ?_, ?_, ?_, ?_, ?_, ?_, ?_, ?_, trivial⟩ <;> omega
theorem preL_at (d : Dsc) (j : Nat) (hj : j < 17) : (d.preL).getD j 0 = d.pre j := by
  simp [Dsc.preL, List.getD, hj]
theorem fullL_at (d : Dsc) (j : Nat) (hj : j < 20) : (d.fullL).getD j 0 = d.full j := by
  simp [Dsc.fullL, List.getD, hj]
theorem full_be {d : Dsc} (h : d.may) : d.preL ++ beAll [(d.sum, 3)] = d.fullL := by
  have hb := chk_bd d.pre 17
  have hs : d.sum = chk d.pre 17 := rfl
  have e : d.fullL = d.preL ++ [d.sum / 65536, d.sum / 256 % 256, d.sum % 256] := rfl
  rw [e]
  show d.preL ++ [d.sum / 256 ^ 2 % 256, d.sum / 256 ^ 1 % 256, d.sum / 256 ^ 0 % 256] = _
  congr 1
  generalize d.sum = m at *
  simp only [List.cons.injEq]
  refine ⟨?_, ?_, ?_, trivial⟩ <;> omega
/-- A list of bytes, to be read. -/
theorem rd_bys {w : World} {B : Option Addr} {n cap : Nat} {xs : List Int} (h : Lis w 5 1 (.slice B n cap) n (bys xs)) : Rd w B n (fun j => .int .u8 (xs.getD j 0)) := by
  intro hn
  have hl : xs.length = n := by simpa [bys_len] using h.1
  rcases h.reads.2 with h0 | ⟨g, off, rfl, hc⟩
  · omega
  · refine ⟨g, off, rfl, h.lt rfl, fun j hj => ?_⟩
    rw [hc j (.int .u8 (xs.getD j 0)) (by simp [bys, List.getD, show j < xs.length by omega])]
section
variable {w0 w : World} {S0 : Nat → Prop} {L : List Res}
theorem nums_ok {d : Dsc} (hd : d.may) : ∀ p ∈ d.nums, (0 ≤ p.1 ∧ p.1 < 1099511627776) ∧ p.2 ≤ 4 := by
  have hm := marks_bd hd
  obtain ⟨h1, h2, h3, h4, h5, h6, h7, _⟩ := hd
  intro p hp
  simp only [Dsc.nums, List.mem_cons, List.not_mem_nil, or_false] at hp
  rcases hp with rfl | rfl | rfl | rfl | rfl | rfl | rfl | rfl <;> dsimp only <;> omega
theorem nums_cells (d : Dsc) : (fcs d.nums).toArray = #[.int .i64 d.marks, .int .i64 1, .int .i64 d.st, .int .i64 1, .int .i64 d.req, .int .i64 2, .int .i64 d.slot, .int .i64 2, .int .i64 d.gen, .int .i64 4, .int .i64 d.frm, .int .i64 2, .int .i64 d.len, .int .i64 4, .int .i64 0, .int .i64 1] := by
  simp [Dsc.nums, fcs]
theorem write_first {X : Res} {d : Dsc} (hd : d.may) (H : St w0 S0 w [X]) :
    Calls Try.prog 19 #[.slice none 0 0, .slice (some ⟨w.heap.size, 0, none⟩) 8 8] (w.alloc (.cells #[.int .i64 d.marks, .int .i64 1, .int .i64 d.st, .int .i64 1, .int .i64 d.req, .int .i64 2, .int .i64 d.slot, .int .i64 2, .int .i64 d.gen, .int .i64 4, .int .i64 d.frm, .int .i64 2, .int .i64 d.len, .int .i64 4, .int .i64 0, .int .i64 1] 51))
      fun e w' => ∃ B cap, e = .returned (.slice B 17 cap) ∧ St w0 S0 w' [X, LisR 5 1 (.slice B 17 cap) 17 (bys d.preL)] := by
  have hpl : d.preL.length = 17 := by simp [Dsc.preL]
  have h1 : St w0 S0 (w.alloc (.cells (fcs d.nums).toArray 51)) [X, LisR 5 1 (.slice none 0 0) 0 (bys []), BlkR w.heap.size 51 (fcs d.nums).toArray] := (H.lis_nil 5 1).box _ _
  have h2 := write_c d.nums (nums_ok hd) (by rw [pre_be hd]; simp [hpl]) 8 rfl (by omega) (c := 8) h1
  rw [List.nil_append, pre_be hd, hpl, nums_cells] at h2
  refine h2.mono ?_
  rintro e w' ⟨B, c, rfl, s⟩
  exact ⟨B, c, rfl, s.take 2⟩
theorem write_last {X : Res} {d : Dsc} (hd : d.may) {A : Option Addr} {cap : Nat} (H : St w0 S0 w [X, LisR 5 1 (.slice A 17 cap) 17 (bys d.preL)]) :
    Calls Try.prog 19 #[.slice A 17 cap, .slice (some ⟨w.heap.size, 0, none⟩) 1 1] (w.alloc (.cells #[.int .i64 d.sum, .int .i64 3] 51))
      fun e w' => ∃ B cap, e = .returned (.slice B 20 cap) ∧ St w0 S0 w' [X, LisR 5 1 (.slice B 20 cap) 20 (bys d.fullL)] := by
  have hsb : 0 ≤ d.sum ∧ d.sum < 16777216 := chk_bd d.pre 17
  have hfl : d.fullL.length = 20 := by simp [Dsc.fullL]
  have h2 := write_c [(d.sum, 3)] (by intro p hp; obtain rfl : p = (d.sum, 3) := by simpa using hp
                                      dsimp only; omega) (by rw [full_be hd]; omega) 1 rfl (by omega) (c := 1) (H.box 51 (fcs [(d.sum, 3)]).toArray)
  rw [full_be hd, hfl] at h2
  refine h2.mono ?_
  rintro e w' ⟨B, c, rfl, s⟩
  exact ⟨B, c, rfl, s.take 2⟩
theorem dsc_cells (d : Dsc) (W : World) (G : Nat) (h : Blk W G 26 d.cells) : W.cell? ⟨G, 0, none⟩ = some (.int .i64 d.op) ∧ W.cell? ⟨G, 1, none⟩ = some (.int .i64 d.req) ∧ W.cell? ⟨G, 2, none⟩ = some (.int .i64 d.slot) ∧ W.cell? ⟨G, 3, none⟩ = some (.int .u64 d.gen) ∧ W.cell? ⟨G, 4, none⟩ = some (.int .i64 d.frm) ∧ W.cell? ⟨G, 5, none⟩ = some (.int .i64 d.len) ∧ W.cell? ⟨G, 6, none⟩ = some (.bool d.dv) ∧ W.cell? ⟨G, 7, none⟩ = some (.bool d.dn) ∧ W.cell? ⟨G, 8, none⟩ = some (.int .i64 d.st) := by
  refine ⟨?_, ?_, ?_, ?_, ?_, ?_, ?_, ?_, ?_⟩ <;> (rw [h.cell]; rfl)
theorem bytes_yes (d : Dsc) (hd : d.may) (H : St w0 S0 w L) : Calls Try.prog 10 #[d.v] w fun e w' => ∃ B cap, e = .returned (.slice B 20 cap) ∧ St w0 S0 w' (L ++ [LisR 5 1 (.slice B 20 cap) 20 (bys d.fullL)]) := by
  have HH := Lib.hid H
  clear H
  have M := Lib.hid (fun (w : World) => may_c d w hd.fits true (decide_eq_true hd).symm)
  have K := Lib.hid (fun (w : World) => marks_c d w hd.1 d.marks rfl)
  have hsb : 0 ≤ d.sum ∧ d.sum < 16777216 := chk_bd d.pre 17
  have HD := Lib.hid hd
  have HP := Lib.hid (pre_bd hd)
  have hg := hd.2.2.2.1
  have wg : IntKind.i64.wrap d.gen = d.gen := IntWalk.i64_in _ ⟨by omega, by omega⟩
  clear hd
  unfold Dsc.v at M K ⊢
  go_enter Try.func10, Try.ntmps10
  go_wp2_with fail
  have s0 : St w None _ [_] := (St.begin w).box 26 d.cells
  refine (M.out _).mono ?_
  rintro e w1 ⟨rfl, hb⟩
  have s1 := s0.stay hb
  clear s0 hb M
  generalize w.heap.size = g at *
  obtain ⟨hx⟩ : Nonempty (Blk w1 g 26 d.cells) := ⟨s1.blk 0 rfl⟩
  obtain ⟨c0, c1, c2, c3, c4, c5, c6, c7, c8⟩ := dsc_cells d w1 g hx
  have S1 := Lib.hid s1
  clear s1 hx
  go_wp2_with fail
  go_region_held3 (fun W => W.cell? ⟨g, 0, none⟩ = some (.int .i64 d.op) ∧ W.cell? ⟨g, 1, none⟩ = some (.int .i64 d.req) ∧ W.cell? ⟨g, 2, none⟩ = some (.int .i64 d.slot) ∧ W.cell? ⟨g, 3, none⟩ = some (.int .u64 d.gen) ∧ W.cell? ⟨g, 4, none⟩ = some (.int .i64 d.frm) ∧ W.cell? ⟨g, 5, none⟩ = some (.int .i64 d.len) ∧ W.cell? ⟨g, 6, none⟩ = some (.bool d.dv) ∧ W.cell? ⟨g, 7, none⟩ = some (.bool d.dn) ∧ W.cell? ⟨g, 8, none⟩ = some (.int .i64 d.st)) (go_keep)
    (first
      | (go_at_call 20; refine (K.out _).mono ?_; rintro e w2 ⟨rfl, hb2⟩; have s2 : St w None w2 [BlkR g 26 d.cells] := (S1.out.drew).stay hb2; have q2 := dsc_cells d w2 g (s2.blk 0 rfl); have S2 := Lib.hid s2; clear hb2 s2)
      | (go_at_call 19; refine (write_first HD.out S2.out).mono ?_; rintro e w3 ⟨B, c, rfl, s3⟩; have q3 := dsc_cells d w3 g (s3.blk 0 rfl); have S3 := Lib.hid s3; clear s3))
  all_goals
    have rd := rd_bys (S3.out.lis 1 rfl)
    have ck : chk (fun j => (d.preL).getD j 0) 17 = d.sum := chk_like (preL_at d)
    have CK := Lib.hid (check_c (n := 17) (cap := c) (f := fun j => (d.preL).getD j 0) rd (fun j hj => by rw [preL_at d j hj]; exact HP.out j) (by omega))
    rw [ck] at CK
    clear ck rd
    have wsum : IntKind.i64.wrap d.sum = d.sum := IntWalk.i64_in _ ⟨by omega, by omega⟩
    go_wp2_with fail
    refine CK.out.mono ?_
    rintro e w4 ⟨rfl, rfl⟩
    clear CK
    go_wp2_with fail
    refine (write_last HD.out S3.out).mono ?_
    rintro e w5 ⟨B2, c2, rfl, s5⟩
    go_wp2_with fail
    go_ret
    obtain ⟨S', y1, y2, y3⟩ := (s5.drop 0 (by simp)).made
    exact ⟨B2, c2, rfl, HH.out.more y3 y1 y2⟩
end
end Go.Proofs.Ytninpnlmmaleaaa
