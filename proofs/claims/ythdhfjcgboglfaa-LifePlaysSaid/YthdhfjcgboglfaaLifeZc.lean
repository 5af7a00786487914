/- Layer 19: the document's own book: Open. Printed by bin/genLifeRef.py. -/
import Derived.Test.YthdhfjcgboglfaaLifeZb
import Derived.Deep.DeepCutAuto
import Derived.Deep.CutBlock
namespace Go.Proofs.Ythdhfjcgboglfaa
open Go.RowKit
set_option linter.unusedVariables false
set_option maxRecDepth 100000
set_option maxHeartbeats 16000000
/-- What stands from a region on. -/
def fromReg (n : Nat) : Code → Option Code
  | .seq (.region m o d) c => if m = n then some (.seq (.region m o d) c) else fromReg n c
  | .seq _ c => fromReg n c
  | _ => none
section
variable {w0 w w' : World} {S0 S : Nat → Prop} {L : List Res} {r : Nat} {cost now id at1 : Int} {FV : Value} {X : Res} {l : List (Int × Int)}
theorem rbOpen_first {C : Code} (hC : Try.f12.body.bind (fromReg 14) = some C) {x3 x4 x5 x6 x8 x9 x10 x11 x12 x13 x14 x15 x16 x17 x18 x19 x20 x21 x22 x23 x24 x25 x26 x27 x28 x29 x30 x31 x32 x33 x34 x35 x36 x37 x38 x39 x40 x41 x42 x43 x44 x45 x46 x47 x48 x49 x50 x51 x52 x53 x54 x55 x56 x57 x58 x59 x60 x61 x62 x63 x64 x65 x66 x67 x68 x69 x70 x71 x72 x73 x74 x75 x76 x77 x78 x79 x80 x81 x82 x83 x84 x85 x86 x87 x88 x89 x90 x91 x92 x93 x94 x95 x96 x97 x98 x99 x100 x101 x102 x103 x104 : Value} {wc : World} {l l' : List (Int × Int)} {A : Option Addr} {c n i : Nat} (hlen : n ≤ 1000) (hin : i ≤ n) (HL : RowKit.Hid (i + 1 + (n - i) = l'.length))
    (HM : RowKit.Hid (tvs (l.take i) ++ [.int .i64 id, .int .u64 at1] ++ tvs (l.drop i) = tvs l')) (HN : RowKit.Hid (l.length = n)) (hcap : n ≤ c ∧ c ≤ 2 ^ 63 - 1) (hca : c = i)
    (S1 : RowKit.Hid (St w S wc [X, BlkR r 33 #[.int .u64 cost, .int .u64 now, .slice A n c, FV], LisR 45 2 (.slice A n c) n (tvs l)])) :
    C.wp Try.prog (bodyPost Try.prog Try.f12 fun e w' => e = .returned (.int .i64 0) ∧ ∃ S', RBX r cost now FV X l' w' S' ∧ Did S S' w w') ⟨#[.pointer (some ⟨r, 0, none⟩), .int .i64 id, .int .u64 at1, x3, x4, x5, x6, .int .i64 (i : Int), x8, x9, x10, x11, x12, x13, x14, x15, x16, x17, x18, x19, x20, x21, x22, x23, x24, x25, x26, x27, x28, x29, x30, x31, x32, x33, x34, x35, x36, x37, x38, x39, x40, x41, x42, x43, x44, x45, x46, x47, x48, x49, x50, x51, x52, x53, x54, x55, x56, x57, x58, x59, x60, x61, x62, x63, x64, x65, x66, x67, x68, x69, x70, x71, x72, x73, x74, x75, x76, x77, x78, x79, x80, x81, x82, x83, x84, x85, x86, x87, x88, x89, x90, x91, x92, x93, x94, x95, x96, x97, x98, x99, x100, x101, x102, x103, x104], []⟩ wc := by
  obtain ⟨iK, hiK, hzK, hsK, hbK⟩ := info3w YthdhfjcgboglfaaiT9
  have q0 := (S1.out.blk 1 rfl).four.2.2.1
  have LS := Lib.hid (S1.out.lis 2 rfl)
  simp only [Try.f12, fromReg, Option.bind_some, Nat.reduceEqDiff, if_false, if_true, Option.some.injEq] at hC
  subst hC
  have hk : i ≤ n := hin
  have hlt : i ≤ n := hin
  have zE := S1.out.drew.lis_new 45 2 0 #[] rfl (by unfold maxLen; omega)
  have zX := S1.out.drew.lis_new 45 2 1 #[.int .i64 id, .int .u64 at1] rfl (by unfold maxLen; omega)
  have zEX := zE.lis_new 45 2 1 #[.int .i64 id, .int .u64 at1] rfl (by unfold maxLen; omega)
  have zXE := zX.lis_new 45 2 0 #[] rfl (by unfold maxLen; omega)
  rw [show (wc.drew.alloc (.cells #[] 45)).heap.size = wc.heap.size + 1 by simp] at zEX
  rw [show (wc.drew.alloc (.cells #[.int .i64 id, .int .u64 at1] 45)).heap.size = wc.heap.size + 1 by simp] at zXE
  have yE := S1.out.lis_new 45 2 0 #[] rfl (by unfold maxLen; omega)
  have yX := S1.out.lis_new 45 2 1 #[.int .i64 id, .int .u64 at1] rfl (by unfold maxLen; omega)
  have q1 := (yE.blk 1 rfl).four.2.2.1
  have q2 := (yX.blk 1 rfl).four.2.2.1
  have q3 := ((yE.lis_new 45 2 1 #[.int .i64 id, .int .u64 at1] rfl (by unfold maxLen; omega)).blk 1 rfl).four.2.2.1
  have q4 := ((yX.lis_new 45 2 0 #[] rfl (by unfold maxLen; omega)).blk 1 rfl).four.2.2.1
  have HT := Lib.hid (tvs_take l i)
  have RZE := Lib.hid (((zE.lis 2 rfl).upto (show i ≤ n by omega)).reads)
  have RZX := Lib.hid (((zEX.lis 2 rfl).upto (show i ≤ n by omega)).reads)
  have RXZ := Lib.hid (((zXE.lis 2 rfl).upto (show i ≤ n by omega)).reads)
  rw [HT.out] at RZE RZX RXZ
  have ZE := Lib.hid zE
  have ZX := Lib.hid zEX
  have XZ := Lib.hid zXE
  have v0 : (0 : Int) ≤ (i : Int) := by omega
  have v1 : i ≤ c := by omega
  have v2 : (i : Int) ≤ (c : Int) := by omega
  have v4 : (i : Int) ≤ (n : Int) := by omega
  clear zE zX zEX zXE yE yX hk hlt HT
  subst hca
  obtain rfl : n = c := by omega
  have CUT := Lib.hid (fun W (K : Lis W 45 2 (.slice A n n) n (tvs l)) => show Rds W A 0 2 (tvs (l.drop n)) from by
    have h := (K.cut (show n ≤ n by omega)).reads
    rw [if_pos rfl, tvs_drop, Nat.sub_self] at h; exact h)
  have HL := Lib.hid (show n + 1 = l'.length from by have := HL.out; omega)
  have y0 : decide ((n : Int) < (n : Int)) = false := decide_eq_false (by omega)
  have y0' : decide (n < n) = false := decide_eq_false (by omega)
  go_wp2_with fail
  go_region_law (first
    | (refine step_lis (by rfl) _ _ _ (by rfl) 45 iK (.agg #[.int .i64 0, .int .u64 0]) 2 16 Try.underlying30 hiK hzK hsK hbK (by rfl) (by omega) (.slice (some ⟨wc.heap.size, 0, none⟩) 0 0) 0 [] (by rfl) (ZE.out.lis 3 rfl) A n n (tvs (l.take n)) (by rfl) RZE.out (tvs_one _) (by unfold maxLen; omega) (by omega) ?_; intro B6 c6 w6 hl hg hat; have t6 := ZE.out.lis_put 3 rfl hl hg hat; simp only [Nat.zero_add, List.nil_append] at t6 ⊢; have q6 := (t6.blk 1 rfl).four.2.2.1; have x6 := t6.lis_new 45 2 1 #[.int .i64 id, .int .u64 at1] rfl (by unfold maxLen; omega); have y6 := (x6.blk 1 rfl).four.2.2.1; have PX := Lib.hid x6; have RX := Lib.hid (x6.lis 4 rfl).reads; clear x6; have PE := Lib.hid t6; clear hl hg hat t6)
    | (refine step_lis (by rfl) _ _ _ (by rfl) 45 iK (.agg #[.int .i64 0, .int .u64 0]) 2 16 Try.underlying30 hiK hzK hsK hbK (by rfl) (by omega) (.slice (some ⟨wc.heap.size, 0, none⟩) 0 0) 0 [] (by rfl) (ZX.out.lis 3 rfl) A n n (tvs (l.take n)) (by rfl) RZX.out (tvs_one _) (by unfold maxLen; omega) (by omega) ?_; intro B6 c6 w6 hl hg hat; have t6 := ZX.out.lis_put 3 rfl hl hg hat; simp only [Nat.zero_add, List.nil_append] at t6 ⊢; have q6 := (t6.blk 1 rfl).four.2.2.1; have PZX := Lib.hid t6; clear hl hg hat t6)
    | (refine step_lis (by rfl) _ _ _ (by rfl) 45 iK (.agg #[.int .i64 0, .int .u64 0]) 2 16 Try.underlying30 hiK hzK hsK hbK (by rfl) (by omega) (.slice (some ⟨wc.heap.size + 1, 0, none⟩) 0 0) 0 [] (by rfl) (XZ.out.lis 4 rfl) A n n (tvs (l.take n)) (by rfl) RXZ.out (tvs_one _) (by unfold maxLen; omega) (by omega) ?_; intro B6 c6 w6 hl hg hat; have t6 := XZ.out.lis_put 4 rfl hl hg hat; simp only [Nat.zero_add, List.nil_append] at t6 ⊢; have q6 := (t6.blk 1 rfl).four.2.2.1; have PXZ := Lib.hid t6; clear hl hg hat t6)
    | (refine step_lis (by rfl) _ _ _ (by rfl) 45 iK (.agg #[.int .i64 0, .int .u64 0]) 2 16 Try.underlying30 hiK hzK hsK hbK (by rfl) (by omega) (.slice B6 n c6) n (tvs (l.take n)) (by rfl) (PX.out.lis 3 rfl) (some ⟨w6.heap.size, 0, none⟩) 1 1 [.int .i64 id, .int .u64 at1] (by rfl) RX.out (tvs_one [(id, at1)]) (by unfold maxLen; omega) (by omega) ?_; intro B7 c7 w7 hl hg hat; have t7 := PX.out.lis_put 3 rfl hl hg hat; have s7 := t7.take 4; have q7 := (s7.blk 1 rfl).four.2.2.1; have F7 := Lib.hid s7; have R7 := Lib.hid (CUT.out w7 (s7.lis 2 rfl)); clear hl hg hat t7 s7)
    | (refine step_lis (by rfl) _ _ _ (by rfl) 45 iK (.agg #[.int .i64 0, .int .u64 0]) 2 16 Try.underlying30 hiK hzK hsK hbK (by rfl) (by omega) (.slice B6 n c6) n (tvs (l.take n)) (by rfl) (PZX.out.lis 3 rfl) (some ⟨wc.heap.size + 1, 0, none⟩) 1 1 [.int .i64 id, .int .u64 at1] (by rfl) (PZX.out.lis 4 rfl).reads (tvs_one [(id, at1)]) (by unfold maxLen; omega) (by omega) ?_; intro B7 c7 w7 hl hg hat; have t7 := PZX.out.lis_put 3 rfl hl hg hat; have s7 := t7.take 4; have q7 := (s7.blk 1 rfl).four.2.2.1; have F7 := Lib.hid s7; have R7 := Lib.hid (CUT.out w7 (s7.lis 2 rfl)); clear hl hg hat t7 s7)
    | (refine step_lis (by rfl) _ _ _ (by rfl) 45 iK (.agg #[.int .i64 0, .int .u64 0]) 2 16 Try.underlying30 hiK hzK hsK hbK (by rfl) (by omega) (.slice B6 n c6) n (tvs (l.take n)) (by rfl) (PXZ.out.lis 4 rfl) (some ⟨wc.heap.size, 0, none⟩) 1 1 [.int .i64 id, .int .u64 at1] (by rfl) (PXZ.out.lis 3 rfl).reads (tvs_one [(id, at1)]) (by unfold maxLen; omega) (by omega) ?_; intro B7 c7 w7 hl hg hat; have t7 := PXZ.out.lis_put 4 rfl hl hg hat; have s7 := t7.drop 3 (by simp); have q7 := (s7.blk 1 rfl).four.2.2.1; have F7 := Lib.hid s7; have R7 := Lib.hid (CUT.out w7 (s7.lis 2 rfl)); clear hl hg hat t7 s7)
    | (refine step_lis (by rfl) _ _ _ (by rfl) 45 iK (.agg #[.int .i64 0, .int .u64 0]) 2 16 Try.underlying30 hiK hzK hsK hbK (by rfl) (by omega) (.slice B7 (n + 1) c7) (n + 1) (tvs (l.take n) ++ [.int .i64 id, .int .u64 at1]) (by rfl) (F7.out.lis 3 rfl) A 0 0 (tvs (l.drop n)) (by rfl) R7.out (tvs_one _) (by unfold maxLen; omega) (by omega) ?_; intro B8 c8 w8 hl hg hat; have t8 := F7.out.lis_put 3 rfl hl hg hat; rw [HM.out] at t8; have q8 := (t8.blk 1 rfl).four.2.2.1; have f8 := (t8.blk 1 rfl).frozen 2; have T8 := Lib.hid ((t8.drop 2 (by simp)).set_ 1 rfl 2 (.slice B8 (n + 1) c8)); clear hl hg hat t8))
  all_goals
    go_wp2_with fail
    go_ret
    refine ⟨rfl, ?_⟩
    have T9 := T8.out
    rw [HL.out] at T9 ⊢
    exact T9.fin (R := RBX r cost now FV X l') fun S' h => ⟨B8, c8, h⟩
theorem rbOpen_other {C : Code} (hC : Try.f12.body.bind (fromReg 14) = some C) {x3 x4 x5 x6 x8 x9 x10 x11 x12 x13 x14 x15 x16 x17 x18 x19 x20 x21 x22 x23 x24 x25 x26 x27 x28 x29 x30 x31 x32 x33 x34 x35 x36 x37 x38 x39 x40 x41 x42 x43 x44 x45 x46 x47 x48 x49 x50 x51 x52 x53 x54 x55 x56 x57 x58 x59 x60 x61 x62 x63 x64 x65 x66 x67 x68 x69 x70 x71 x72 x73 x74 x75 x76 x77 x78 x79 x80 x81 x82 x83 x84 x85 x86 x87 x88 x89 x90 x91 x92 x93 x94 x95 x96 x97 x98 x99 x100 x101 x102 x103 x104 : Value} {wc : World} {l l' : List (Int × Int)} {A : Option Addr} {c n i : Nat} (hlen : n ≤ 1000) (hin : i ≤ n) (HL : RowKit.Hid (i + 1 + (n - i) = l'.length))
    (HM : RowKit.Hid (tvs (l.take i) ++ [.int .i64 id, .int .u64 at1] ++ tvs (l.drop i) = tvs l')) (HN : RowKit.Hid (l.length = n)) (hcap : n ≤ c ∧ c ≤ 2 ^ 63 - 1) (hca : ¬ c = i)
    (S1 : RowKit.Hid (St w S wc [X, BlkR r 33 #[.int .u64 cost, .int .u64 now, .slice A n c, FV], LisR 45 2 (.slice A n c) n (tvs l)])) :
    C.wp Try.prog (bodyPost Try.prog Try.f12 fun e w' => e = .returned (.int .i64 0) ∧ ∃ S', RBX r cost now FV X l' w' S' ∧ Did S S' w w') ⟨#[.pointer (some ⟨r, 0, none⟩), .int .i64 id, .int .u64 at1, x3, x4, x5, x6, .int .i64 (i : Int), x8, x9, x10, x11, x12, x13, x14, x15, x16, x17, x18, x19, x20, x21, x22, x23, x24, x25, x26, x27, x28, x29, x30, x31, x32, x33, x34, x35, x36, x37, x38, x39, x40, x41, x42, x43, x44, x45, x46, x47, x48, x49, x50, x51, x52, x53, x54, x55, x56, x57, x58, x59, x60, x61, x62, x63, x64, x65, x66, x67, x68, x69, x70, x71, x72, x73, x74, x75, x76, x77, x78, x79, x80, x81, x82, x83, x84, x85, x86, x87, x88, x89, x90, x91, x92, x93, x94, x95, x96, x97, x98, x99, x100, x101, x102, x103, x104], []⟩ wc := by
  obtain ⟨iK, hiK, hzK, hsK, hbK⟩ := info3w YthdhfjcgboglfaaiT9
  have q0 := (S1.out.blk 1 rfl).four.2.2.1
  have LS := Lib.hid (S1.out.lis 2 rfl)
  simp only [Try.f12, fromReg, Option.bind_some, Nat.reduceEqDiff, if_false, if_true, Option.some.injEq] at hC
  subst hC
  have hk : i ≤ n := hin
  have hlt : i ≤ n := hin
  have zE := S1.out.drew.lis_new 45 2 0 #[] rfl (by unfold maxLen; omega)
  have zX := S1.out.drew.lis_new 45 2 1 #[.int .i64 id, .int .u64 at1] rfl (by unfold maxLen; omega)
  have zEX := zE.lis_new 45 2 1 #[.int .i64 id, .int .u64 at1] rfl (by unfold maxLen; omega)
  have zXE := zX.lis_new 45 2 0 #[] rfl (by unfold maxLen; omega)
  rw [show (wc.drew.alloc (.cells #[] 45)).heap.size = wc.heap.size + 1 by simp] at zEX
  rw [show (wc.drew.alloc (.cells #[.int .i64 id, .int .u64 at1] 45)).heap.size = wc.heap.size + 1 by simp] at zXE
  have yE := S1.out.lis_new 45 2 0 #[] rfl (by unfold maxLen; omega)
  have yX := S1.out.lis_new 45 2 1 #[.int .i64 id, .int .u64 at1] rfl (by unfold maxLen; omega)
  have q1 := (yE.blk 1 rfl).four.2.2.1
  have q2 := (yX.blk 1 rfl).four.2.2.1
  have q3 := ((yE.lis_new 45 2 1 #[.int .i64 id, .int .u64 at1] rfl (by unfold maxLen; omega)).blk 1 rfl).four.2.2.1
  have q4 := ((yX.lis_new 45 2 0 #[] rfl (by unfold maxLen; omega)).blk 1 rfl).four.2.2.1
  have HT := Lib.hid (tvs_take l i)
  have RZE := Lib.hid (((zE.lis 2 rfl).upto (show i ≤ n by omega)).reads)
  have RZX := Lib.hid (((zEX.lis 2 rfl).upto (show i ≤ n by omega)).reads)
  have RXZ := Lib.hid (((zXE.lis 2 rfl).upto (show i ≤ n by omega)).reads)
  rw [HT.out] at RZE RZX RXZ
  have ZE := Lib.hid zE
  have ZX := Lib.hid zEX
  have XZ := Lib.hid zXE
  have v0 : (0 : Int) ≤ (i : Int) := by omega
  have v1 : i ≤ c := by omega
  have v2 : (i : Int) ≤ (c : Int) := by omega
  have v4 : (i : Int) ≤ (n : Int) := by omega
  clear zE zX zEX zXE yE yX hk hlt HT
  obtain ⟨b, off, rfl⟩ : ∃ b off, A = some ⟨b, off, none⟩ := by
    rcases LS.out.2 with ⟨hv, _⟩ | ⟨g, off, cp, arr, hv, _⟩
    · injection hv with h1 h2 h3; omega
    · injection hv with h1 h2 h3; exact ⟨g, off, h1⟩
  have CUT := Lib.hid (fun W (K : Lis W 45 2 (.slice (some ⟨b, off, none⟩) n c) n (tvs l)) => show Rds W (some ⟨b, off + i * 2, none⟩) (n - i) 2 (tvs (l.drop i)) from by
    have h := (K.cut (show i ≤ n by omega)).reads
    rw [if_neg hca, tvs_drop] at h; simpa only [Option.map_some, Go.WideShapes.add_plain] using h)
  go_wp2_with fail
  go_region_law (first
    | (refine step_lis (by rfl) _ _ _ (by rfl) 45 iK (.agg #[.int .i64 0, .int .u64 0]) 2 16 Try.underlying30 hiK hzK hsK hbK (by rfl) (by omega) (.slice (some ⟨wc.heap.size, 0, none⟩) 0 0) 0 [] (by rfl) (ZE.out.lis 3 rfl) (some ⟨b, off, none⟩) i c (tvs (l.take i)) (by rfl) RZE.out (tvs_one _) (by unfold maxLen; omega) (by omega) ?_; intro B6 c6 w6 hl hg hat; have t6 := ZE.out.lis_put 3 rfl hl hg hat; simp only [Nat.zero_add, List.nil_append] at t6 ⊢; have q6 := (t6.blk 1 rfl).four.2.2.1; have x6 := t6.lis_new 45 2 1 #[.int .i64 id, .int .u64 at1] rfl (by unfold maxLen; omega); have y6 := (x6.blk 1 rfl).four.2.2.1; have PX := Lib.hid x6; have RX := Lib.hid (x6.lis 4 rfl).reads; clear x6; have PE := Lib.hid t6; clear hl hg hat t6)
    | (refine step_lis (by rfl) _ _ _ (by rfl) 45 iK (.agg #[.int .i64 0, .int .u64 0]) 2 16 Try.underlying30 hiK hzK hsK hbK (by rfl) (by omega) (.slice (some ⟨wc.heap.size, 0, none⟩) 0 0) 0 [] (by rfl) (ZX.out.lis 3 rfl) (some ⟨b, off, none⟩) i c (tvs (l.take i)) (by rfl) RZX.out (tvs_one _) (by unfold maxLen; omega) (by omega) ?_; intro B6 c6 w6 hl hg hat; have t6 := ZX.out.lis_put 3 rfl hl hg hat; simp only [Nat.zero_add, List.nil_append] at t6 ⊢; have q6 := (t6.blk 1 rfl).four.2.2.1; have PZX := Lib.hid t6; clear hl hg hat t6)
    | (refine step_lis (by rfl) _ _ _ (by rfl) 45 iK (.agg #[.int .i64 0, .int .u64 0]) 2 16 Try.underlying30 hiK hzK hsK hbK (by rfl) (by omega) (.slice (some ⟨wc.heap.size + 1, 0, none⟩) 0 0) 0 [] (by rfl) (XZ.out.lis 4 rfl) (some ⟨b, off, none⟩) i c (tvs (l.take i)) (by rfl) RXZ.out (tvs_one _) (by unfold maxLen; omega) (by omega) ?_; intro B6 c6 w6 hl hg hat; have t6 := XZ.out.lis_put 4 rfl hl hg hat; simp only [Nat.zero_add, List.nil_append] at t6 ⊢; have q6 := (t6.blk 1 rfl).four.2.2.1; have PXZ := Lib.hid t6; clear hl hg hat t6)
    | (refine step_lis (by rfl) _ _ _ (by rfl) 45 iK (.agg #[.int .i64 0, .int .u64 0]) 2 16 Try.underlying30 hiK hzK hsK hbK (by rfl) (by omega) (.slice B6 i c6) i (tvs (l.take i)) (by rfl) (PX.out.lis 3 rfl) (some ⟨w6.heap.size, 0, none⟩) 1 1 [.int .i64 id, .int .u64 at1] (by rfl) RX.out (tvs_one [(id, at1)]) (by unfold maxLen; omega) (by omega) ?_; intro B7 c7 w7 hl hg hat; have t7 := PX.out.lis_put 3 rfl hl hg hat; have s7 := t7.take 4; have q7 := (s7.blk 1 rfl).four.2.2.1; have F7 := Lib.hid s7; have R7 := Lib.hid (CUT.out w7 (s7.lis 2 rfl)); clear hl hg hat t7 s7)
    | (refine step_lis (by rfl) _ _ _ (by rfl) 45 iK (.agg #[.int .i64 0, .int .u64 0]) 2 16 Try.underlying30 hiK hzK hsK hbK (by rfl) (by omega) (.slice B6 i c6) i (tvs (l.take i)) (by rfl) (PZX.out.lis 3 rfl) (some ⟨wc.heap.size + 1, 0, none⟩) 1 1 [.int .i64 id, .int .u64 at1] (by rfl) (PZX.out.lis 4 rfl).reads (tvs_one [(id, at1)]) (by unfold maxLen; omega) (by omega) ?_; intro B7 c7 w7 hl hg hat; have t7 := PZX.out.lis_put 3 rfl hl hg hat; have s7 := t7.take 4; have q7 := (s7.blk 1 rfl).four.2.2.1; have F7 := Lib.hid s7; have R7 := Lib.hid (CUT.out w7 (s7.lis 2 rfl)); clear hl hg hat t7 s7)
    | (refine step_lis (by rfl) _ _ _ (by rfl) 45 iK (.agg #[.int .i64 0, .int .u64 0]) 2 16 Try.underlying30 hiK hzK hsK hbK (by rfl) (by omega) (.slice B6 i c6) i (tvs (l.take i)) (by rfl) (PXZ.out.lis 4 rfl) (some ⟨wc.heap.size, 0, none⟩) 1 1 [.int .i64 id, .int .u64 at1] (by rfl) (PXZ.out.lis 3 rfl).reads (tvs_one [(id, at1)]) (by unfold maxLen; omega) (by omega) ?_; intro B7 c7 w7 hl hg hat; have t7 := PXZ.out.lis_put 4 rfl hl hg hat; have s7 := t7.drop 3 (by simp); have q7 := (s7.blk 1 rfl).four.2.2.1; have F7 := Lib.hid s7; have R7 := Lib.hid (CUT.out w7 (s7.lis 2 rfl)); clear hl hg hat t7 s7)
    | (refine step_lis (by rfl) _ _ _ (by rfl) 45 iK (.agg #[.int .i64 0, .int .u64 0]) 2 16 Try.underlying30 hiK hzK hsK hbK (by rfl) (by omega) (.slice B7 (i + 1) c7) (i + 1) (tvs (l.take i) ++ [.int .i64 id, .int .u64 at1]) (by rfl) (F7.out.lis 3 rfl) (some ⟨b, off + i * 2, none⟩) (n - i) (c - i) (tvs (l.drop i)) (by rfl) R7.out (tvs_one _) (by unfold maxLen; omega) (by omega) ?_; intro B8 c8 w8 hl hg hat; have t8 := F7.out.lis_put 3 rfl hl hg hat; rw [HM.out] at t8; have q8 := (t8.blk 1 rfl).four.2.2.1; have f8 := (t8.blk 1 rfl).frozen 2; have T8 := Lib.hid ((t8.drop 2 (by simp)).set_ 1 rfl 2 (.slice B8 (i + 1 + (n - i)) c8)); clear hl hg hat t8))
  all_goals
    go_wp2_with fail
    go_ret
    refine ⟨rfl, ?_⟩
    have T9 := T8.out
    rw [HL.out] at T9 ⊢
    exact T9.fin (R := RBX r cost now FV X l') fun S' h => ⟨B8, c8, h⟩
theorem rbOpen_yes (h : RBX r cost now FV X l w S) (hlen : l.length ≤ 63) (h0 : 0 ≤ id) (h1 : id ≤ 65535) (h2 : now + cost < at1) (h3 : at1 < 4611686018427387904) (hn0 : 0 ≤ now) (hc0 : 0 ≤ cost) (hno : ∀ x, x ∈ l → x.1 ≠ id)
    {l' : List (Int × Int)} {i : Nat} (hin : i ≤ l.length) (heq : l' = l.take i ++ [(id, at1)] ++ l.drop i)
    (hle : ∀ (k : Nat) (x : Int × Int), k < i → l[k]? = some x → x.2 < at1 ∨ x.2 = at1 ∧ x.1 < id) (hgt : ∀ x, l[i]? = some x → ¬ (x.2 < at1 ∨ x.2 = at1 ∧ x.1 < id)) :
    Calls Try.prog 12 #[.pointer (some ⟨r, 0, none⟩), .int .i64 id, .int .u64 at1] w fun e w' => e = .returned (.int .i64 0) ∧ ∃ S', RBX r cost now FV X l' w' S' ∧ Did S S' w w' := by
  obtain ⟨iK, hiK, hzK, hsK, hbK⟩ := info3w YthdhfjcgboglfaaiT9
  have FI := Lib.hid (rbfind_c h (by omega) id)
  obtain ⟨A, c, hr⟩ := h
  have HNO := Lib.hid hno
  have d0 : decide (id < 0) = false := decide_eq_false (by omega)
  have d1 : decide (65535 < id) = false := decide_eq_false (by omega)
  have d3 : decide (4611686018427387904 ≤ at1) = false := decide_eq_false (by omega)
  have hwn : IntKind.u64.wrap (now + cost) = now + cost := IntWalk.u64_in _ ⟨by omega, by omega⟩
  have d2 : decide (at1 ≤ now + cost) = false := decide_eq_false (by omega)
  obtain ⟨n, hn⟩ : ∃ n, l.length = n := ⟨_, rfl⟩
  have S1 := Lib.hid (show St w S w [X, BlkR r 33 #[.int .u64 cost, .int .u64 now, .slice A n c, FV], LisR 45 2 (.slice A n c) n (tvs l)] by rw [← hn]; exact St.start hr)
  have HL := Lib.hid (show i + 1 + (n - i) = l'.length by rw [heq]; simp; omega)
  have HM := Lib.hid (show tvs (l.take i) ++ [.int .i64 id, .int .u64 at1] ++ tvs (l.drop i) = tvs l' by rw [heq, tvs_app, tvs_app]; rfl)
  rw [hn] at hin hlen
  have HN := Lib.hid hn
  have HLE := Lib.hid hle
  have HGT := Lib.hid hgt
  have q0 := (S1.out.blk 1 rfl).four.2.2.1
  have LS := Lib.hid (S1.out.lis 2 rfl)
  have hcap : n ≤ c ∧ c ≤ maxLen := by
    obtain ⟨A', c', hv, h1, h2⟩ := LS.out.shape
    injection hv with _ _ hv
    subst hv; exact ⟨h1, h2⟩
  unfold maxLen at hcap
  clear heq hle hgt hn
  have q1 := (S1.out.blk 1 rfl).four.1
  have q2 := (S1.out.blk 1 rfl).four.2.1
  have d4 : decide (64 ≤ (n : Int)) = false := decide_eq_false (by omega)
  have d4' : decide (64 ≤ n) = false := decide_eq_false (by omega)
  clear hr hno
  go_enter Try.func12, Try.ntmps12
  go_wp2_with fail
  refine FI.out.mono ?_
  rintro e w1 ⟨⟨z, rfl, hz⟩, rfl⟩
  obtain rfl : z = -1 := by
    rcases hz with ⟨rfl, _⟩ | ⟨j, x, rfl, hx, hid⟩
    · rfl
    · exact absurd hid (HNO.out x (List.mem_of_getElem? hx))
  clear hz FI
  go_wp2_with fail
  go_quiet (fail)
  have s2 := S1.out.drewN nq
  obtain ⟨wb, hwb⟩ : ∃ wb, w1.drewN nq = wb := ⟨_, rfl⟩
  rw [hwb] at s2 ⊢
  have q0 := (s2.blk 1 rfl).four.2.2.1
  have LS := Lib.hid (s2.lis 2 rfl)
  have S1 := Lib.hid s2
  clear hwb s2 q1 q2 HNO d2 hwn
  go_upto_block 0 with (fail)
  go_cut [7] (fun x wx => x = .int .i64 (i : Int) ∧ wx = wb)
  case first =>
    go_wp2_with fail
    go_loopw [7] (fun x wr => ∃ k : Nat, k ≤ i ∧ x = .int .i64 (k : Int) ∧ wr = wb) (fun x _ => i - (intOf x).toNat)
    case atStart => exact ⟨0, by omega, rfl, rfl⟩
    case round =>
    obtain ⟨k, hk, rfl, rfl⟩ := hrel
    by_cases hlt : k < i
    · obtain ⟨x, hx⟩ : ∃ x, l[k]? = some x := ⟨l[k]'(by have := HN.out; omega), List.getElem?_eq_getElem _⟩
      obtain ⟨b, off, rfl, m0, m1⟩ := tm_cell (c := c) (by rw [HN.out]; exact LS.out) hx
      have hxp := HLE.out k x hlt hx
      obtain ⟨x1, x2⟩ := x
      dsimp only at m0 m1 hxp
      have y0 : decide ((k : Int) < (n : Int)) = true := decide_eq_true (by omega)
      have y0' : decide (k < n) = true := decide_eq_true (by omega)
      clear hx
      by_cases hx2 : x2 < at1
      · have y1 : decide (x2 < at1) = true := decide_eq_true hx2
        clear hxp
        go_wp2_with fail
        go_roundw
        case rel => exact ⟨k + 1, by omega, by go_num, by first | rfl | trivial⟩
        case measure => simp [intOf]; omega
      · have y1 : decide (x2 < at1) = false := decide_eq_false hx2
        have y2 : (x2 == at1) = true := beq_iff_eq.2 (by omega)
        have y3 : decide (x1 < id) = true := decide_eq_true (by omega)
        clear hxp
        go_wp2_with fail
        go_roundw
        case rel => exact ⟨k + 1, by omega, by go_num, by first | rfl | trivial⟩
        case measure => simp [intOf]; omega
    obtain rfl : i = k := by omega
    by_cases ke : i < n
    · have y0 : decide ((i : Int) < (n : Int)) = true := decide_eq_true (by omega)
      have y0' : decide (i < n) = true := decide_eq_true ke
      obtain ⟨⟨x1, x2⟩, hx⟩ : ∃ x, l[i]? = some x := ⟨_, List.getElem?_eq_getElem (by have := HN.out; omega)⟩
      have hgt := HGT.out _ hx
      dsimp only at hgt
      obtain ⟨b', off', rfl, m0, m1⟩ := tm_cell (c := c) (by rw [HN.out]; exact LS.out) hx
      dsimp only at m0 m1
      have z0 : decide (x2 < at1) = false := decide_eq_false (by omega)
      clear hx
      by_cases hz : x2 = at1
      · have z1 : (x2 == at1) = true := beq_iff_eq.2 hz
        have z2 : decide (x1 < id) = false := decide_eq_false (by omega)
        clear hgt hz
        go_wp2_with fail
        go_meet
        exact ⟨rfl, rfl⟩
      · have z1 : (x2 == at1) = false := beq_eq_false_iff_ne.2 hz
        clear hgt hz
        go_wp2_with fail
        go_meet
        exact ⟨rfl, rfl⟩
    · have y0 : decide ((i : Int) < (n : Int)) = false := decide_eq_false (by omega)
      have y0' : decide (i < n) = false := decide_eq_false (by omega)
      go_wp2_with fail
      go_meet
      exact ⟨rfl, rfl⟩
  case rest =>
  obtain ⟨rfl, rfl⟩ := hcut
  by_cases hca : c = i
  · refine (by assumption : ∀ (a : Act) (w : World), _ → _) _ _ ?_
    exact rbOpen_first (by kernel_rfl) (by omega) hin HL HM HN hcap hca S1
  · refine (by assumption : ∀ (a : Act) (w : World), _ → _) _ _ ?_
    exact rbOpen_other (by kernel_rfl) (by omega) hin HL HM HN hcap hca S1
end
end Go.Proofs.Ythdhfjcgboglfaa
