/- Layer 20: the first look of the laws. -/
import Derived.Test.YtcbhhajcgfiigaaGreatIqS
import Derived.Laws.IdiomStrings
import Derived.Lib.SmallJoins
namespace Go.Proofs.YtcbhhajcgfiigaaGreat
open Go.RowKit
set_option linter.unusedVariables false
set_option maxRecDepth 100000
set_option maxHeartbeats 4000000
section
variable {w0 w w' : World} {S0 : Nat → Prop} {X N : List Res} {a : Da} {n sz : Nat} {bp : Nat → Nat} {D : Dv} {k : Nat}
/-- A box behind a device. -/
theorem dv_box (s : St w0 S0 w (DvL a n sz bp D ++ X)) (t : TypeId) (cs : Array Value) : St w0 S0 (w.alloc (.cells cs t)) (DvL a n sz bp D ++ (X ++ [BlkR w.heap.size t cs])) := by
  rw [← List.append_assoc]; exact s.box t cs
theorem dv_blk (s : St w0 S0 w (DvL a n sz bp D ++ X)) (j : Nat) {g : Nat} {t : TypeId} {cs : Array Value} (hj : X[j]? = some (BlkR g t cs)) : Blk w g t cs := by
  refine s.blk (8 + j) ?_
  rw [List.getElem?_append_right (by simp [DvL])]
  simpa [DvL] using hj
theorem dv_lis (s : St w0 S0 w (DvL a n sz bp D ++ X)) (j : Nat) {e : TypeId} {z m : Nat} {v : Value} {xs : List Value} (hj : X[j]? = some (LisR e z v m xs)) : Lis w e z v m xs := by
  refine s.lis (8 + j) ?_
  rw [List.getElem?_append_right (by simp [DvL])]
  simpa [DvL] using hj
def r7 : Rq := ⟨7, 0, 100, 0, 0, 1, 2, 4, false, false, false, false⟩
def r8 : Rq := ⟨8, 0, 100, 0, 0, 1, 2, 4, false, false, false, false⟩
theorem newI {sz : Nat} {c : Int} (hs : 1 ≤ sz ∧ sz ≤ 64) (hc : newA c = 0) : DvI 5 sz 1 (Dv.new (stG 4) c) :=
  DvI.new (stG_ok 4) (by omega) hs hc fun i hi => by rw [(stG_len 4 i hi).2.2.1]; split <;> exact ⟨by omega, by omega⟩
theorem awake_c (w : World) : Calls Tryz.prog 9 #[] w fun e w' => e = .returned (.bool true) ∧ St w None w' [] := by
  have K0 := Lib.hid (got_c (St.begin w))
  have l0 := stG_len 4 0 (by omega)
  have hlen : ((stG 4 0).bs.length : Int) = 8 := by rw [l0.1]; rfl
  have hgen : (stG 4 0).gen = 1 := l0.2.1
  have hown : (stG 4 0).owner = 1 := l0.2.2.1
  have hI0 : DvI 5 2 1 (Dv.new (stG 4) 5) := newI ⟨by omega, by omega⟩ rfl
  obtain ⟨D1, hP1, O1⟩ := one_sub (i := 0) (r := r7) (c := 5) (stt := 0) (bad := false) hI0 rfl (by omega) rfl hgen.symm hown (by rw [hlen]; decide) ⟨rfl, rfl, rfl⟩ (by show (5 : Int) < 100; omega)
  rw [hlen] at hP1
  obtain ⟨z1, z2⟩ := O1.tells (i := 0) (by omega) (by omega)
  rw [hlen, hgen] at z1
  rw [hgen] at z2
  have ow1 := O1.owner (i := 0) (by omega) rfl rfl (by omega) (by omega)
  rw [if_neg (by omega)] at ow1
  have hP2 : SubP 5 D1 8 0 (D1.st 0).owner r8 8 D1 := Or.inr (Or.inl ⟨by decide, by rw [ow1]; omega, rfl, rfl⟩)
  have hz0 : po.SizeP 5 (Dv.new (stG 4) 5).st 0 1 8 0 := Or.inr ⟨0, by omega, rfl, by show (stG 4 0).owner ≠ 0; omega, hgen, hlen.symm, rfl⟩
  have ho0 : po.OwnerP 5 (Dv.new (stG 4) 5).st 0 1 1 (stG 4 0).refs 0 := Or.inr ⟨0, by omega, rfl, by show (stG 4 0).owner ≠ 0; omega, hgen, hown.symm, rfl, rfl⟩
  have HI0 := Lib.hid hI0
  have HP1 := Lib.hid hP1
  have HP2 := Lib.hid hP2
  have HZ0 := Lib.hid hz0
  have HO0 := Lib.hid ho0
  have Z1 := Lib.hid z1
  have Z2 := Lib.hid z2
  have HO1 := Lib.hid O1
  clear hI0 hP1 hP2 hz0 ho0 z1 z2 O1 l0 hlen hgen hown ow1
  go_enter Tryz.func9, Tryz.ntmps9
  go_wp2_with fail
  refine K0.out.mono ?_
  rintro e w1 ⟨p, rfl, s1⟩
  have K1 := Lib.hid (show Calls Tryz.prog 12 #[ptrV p, .int .i64 2, .int .u64 5] w1 (fun e w' => ∃ a : Da, a.p = p ∧ e = .returned (.tuple #[ptrV a.d, .int .i64 0]) ∧ St w None w' (DvL a 5 2 (fun _ => 0) (Dv.new (stG 4) 5) ++ [])) from newD_o (sz := 2) (c := 5) (X := []) s1 (fun _ => 0) (by omega) (by omega) rfl)
  clear s1 K0
  go_wp2_with fail
  refine K1.out.mono ?_
  rintro e w2 ⟨a, rfl, rfl, s2⟩
  have s3 := dv_box s2 37 #[.int .i64 0, .int .u64 1]
  rw [List.nil_append] at s3
  obtain ⟨hb, hhb⟩ : ∃ hb, w2.heap.size = hb := ⟨_, rfl⟩
  rw [hhb] at s3
  have BX := Lib.hid (show ∀ (V : World) (bq : Nat → Nat) (E : Dv) (Y : List Res), St w None V (DvL a 5 2 bq E ++ ([BlkR hb 37 #[.int .i64 0, .int .u64 1]] ++ Y)) → V.cell? ⟨hb, 0, none⟩ = some (.int .i64 0) ∧ V.cell? ⟨hb, 1, none⟩ = some (.int .u64 1) from fun V bq E Y s => (dv_blk s 0 rfl).two)
  have S3 := Lib.hid s3
  have K2 := Lib.hid (subD_o s3 HI0.out r7 ⟨rfl, rfl, rfl, rfl⟩ (wf_small (by decide) (by decide)) (by decide) (by decide) HZ0.out HO0.out HP1.out)
  unfold r7 Rq.req at K2
  obtain ⟨x0, x1⟩ := BX.out _ _ _ [] s3
  clear s2 s3 K1
  go_wp2_with fail
  refine K2.out.mono ?_
  rintro e w4 ⟨rfl, bq, s4⟩
  have K3 := Lib.hid (subD_o s4 HO1.out.I r8 ⟨rfl, rfl, rfl, rfl⟩ (wf_small (by decide) (by decide)) (by decide) (by decide) Z1.out Z2.out HP2.out)
  unfold r8 Rq.req at K3
  obtain ⟨x0, x1⟩ := BX.out _ _ _ [] s4
  clear s4 K2
  go_wp2_with fail
  refine K3.out.mono ?_
  rintro e w5 ⟨rfl, bq2, s5⟩
  have K4 := Lib.hid (startW s5 HO1.out.I)
  clear s5 K3 x0 x1
  go_wp2_with fail
  refine K4.out.mono ?_
  rintro e w6 ⟨B6, d6, ids, D2, rfl, -, -, hF, hI2, e1, e2, e3, -, e5, s6⟩
  obtain ⟨rfl, O2⟩ := HO1.out.start hI2 hF e1 e2 e3 e5
  have K5 := Lib.hid (takeW s6 hI2)
  have HO2 := Lib.hid O2
  clear s6 K4 hF hI2 e1 e2 e3 e5 O2
  go_wp2_with fail
  refine K5.out.mono ?_
  rintro e w7 ⟨D3, no, f3, d, rfl, hh, s7⟩
  obtain ⟨k3, st3, h31, h32, h33, h34, rfl, h35, rfl, rfl, rfl⟩ : ∃ k st', D2.pst (D2.g.taken : Int) = some k ∧ k < D2.nx ∧ KeepS 5 D2.st st' ∧ ((D2.rq k).vo = true → st' = D2.st) ∧ D3 = D2.tkD 0 ⟨D2.g.put, D2.g.taken + 1, D2.g.reaped, D2.g.D⟩ k st' ∧ DvI 5 2 1 D3 ∧ no = (D2.g.taken : Int) ∧ d = D2.g.D D2.g.taken ∧ f3 = 0 := by
    rcases hh with ⟨e, -⟩ | ⟨-, h1, h2, h3, k, st', h4, h5, h6, h7, h8, h9⟩
    · rw [HO2.out.hput, HO2.out.htaken] at e; omega
    · exact ⟨k, st', h4, h5, h6, h7, h8, h9, h1, h2, h3⟩
  have O3 := HO2.out.take h31 h33 h35 h34
  obtain ⟨D3, hD3⟩ : ∃ D3, D2.tkD 0 ⟨D2.g.put, D2.g.taken + 1, D2.g.reaped, D2.g.D⟩ k3 st3 = D3 := ⟨_, rfl⟩
  rw [hD3] at O3 s7
  have hno : (D2.g.taken : Int) = 0 := by rw [HO2.out.htaken]; rfl
  rw [hno]
  obtain ⟨⟨q1, q2, q3, q4, q5, q6, q7, q8, q9⟩, hq⟩ : ∃ d : ri.Dsc, D2.g.D D2.g.taken = d := ⟨_, rfl⟩
  rw [hq]
  unfold ri.Dsc.v
  dsimp only
  have s8 := (s7.alloc (.cells #[.int .i64 q1, .int .i64 q2, .int .i64 q3, .int .u64 q4, .int .i64 q5, .int .i64 q6, .bool q7, .bool q8, .int .i64 q9] 66)).alloc (.cells #[.int .u8 97, .int .u8 98] 5 (2, 3))
  have hcv := Go.Joins.run_convert_bytes_const_at (P := Tryz.prog) (w7.alloc (.cells #[.int .i64 q1, .int .i64 q2, .int .i64 q3, .int .u64 q4, .int .i64 q5, .int .i64 q6, .bool q7, .bool q8, .int .i64 q9] 66)) 46 5 #[.int .u8 97, .int .u8 98] 2 2 (w7.heap.size + 1) (by simp) Tryz.underlying46 Tryz.underlying5
  have rd8 : Rds ((w7.alloc (.cells #[.int .i64 q1, .int .i64 q2, .int .i64 q3, .int .u64 q4, .int .i64 q5, .int .i64 q6, .bool q7, .bool q8, .int .i64 q9] 66)).alloc (.cells #[.int .u8 97, .int .u8 98] 5 (2, 3))) (some ⟨w7.heap.size + 1, 0, none⟩) 2 1 (po.bys [97, 98]) := by
    refine ⟨rfl, Or.inr ⟨_, _, rfl, fun j u hu => ?_⟩⟩
    rw [Nat.zero_add, Go.Joins.cell_alloc_mark_at _ _ _ _ _ j (by simp)]
    have hu : ([.int .u8 97, .int .u8 98] : List Value)[j]? = some u := hu
    simpa using hu
  have K6 := Lib.hid (wrW (xs := [97, 98]) (no := 0) (at' := 1) (cp := 2) s8 O3.I (by unfold maxLen; decide) rd8 (wf_small (by decide) (by decide)))
  have HO3 := Lib.hid O3
  clear s7 s8 rd8 K5 O3 h31 h32 h33 h34 h35 hh hq hno hD3
  go_wp2_with fail
  refine K6.out.mono ?_
  rintro e w9 ⟨cw, st4, rfl, hP4, hI4, -, -, s9⟩
  obtain ⟨rfl, O4⟩ := (HO3.out.write (i := 0) (by omega) rfl hP4 hI4).1 ⟨by decide, by decide, by decide⟩
  have K7 := Lib.hid (finW (no := 0) (stt := 9) s9 O4.I false (wf_small (by decide) (by decide)))
  have HO4 := Lib.hid O4
  clear s9 K6 hP4 hI4 O4 HO3
  go_wp2_with fail
  refine K7.out.mono ?_
  rintro e w10 ⟨f5, g5, k5, rfl, hP5, hk5, hI5, s10⟩
  obtain ⟨rfl, O5⟩ := HO4.out.fin false ⟨by omega, by omega⟩ hP5 hk5 hI5
  have K8 := Lib.hid (reapW s10 O5.I)
  have HO5 := Lib.hid O5
  clear s10 K7 hP5 hk5 hI5 O5 HO4
  go_wp2_with fail
  refine K8.out.mono ?_
  rintro e w11 ⟨d6, f6, g6, k6, q6, st6, rfl, hP6, hk6, hI6, hK6, s11⟩
  obtain ⟨rfl, hreq, O6⟩ := HO5.out.reap hP6 hk6 hI6 hK6
  rw [if_pos rfl, hreq, show r7.id = 7 from rfl]
  generalize Dv.rpD _ _ _ _ _ _ _ = D6 at *
  have O6 : OneF 5 2 1 (wrS (stG 4) 0 3 [97, 98]) r7 5 0 D6 1 1 1 true true false 9 [⟨7, 1, 9⟩] := O6
  have K9 := Lib.hid (goW (u := 1) s11 O6.I (by omega))
  have HO6 := Lib.hid O6
  clear s11 K8 hP6 hk6 hI6 hK6 O6 HO5 hreq
  go_wp2_with fail
  refine K9.out.mono ?_
  rintro e w12 ⟨B7, m7, d7, o, D7, rfl, ho, hl, -, hI7, hG7, -, -, s12⟩
  obtain ⟨hg, rfl, O7⟩ := HO6.out.go (by omega) (by omega) ho hI7 hG7
  rw [hg]
  obtain rfl : m7 = 1 := hl.symm
  have hr := O7.reads (i := 0) (a := 3) (m := 2) (by omega) (by show (1 : Int) ≠ 0; omega) (by refine ⟨by omega, ?_, by omega, ?_⟩ <;> decide)
  have K10 := Lib.hid (po.read_o s12 1 rfl O7.I.c.pok hr)
  obtain ⟨x0, x1⟩ := BX.out _ _ _ _ s12
  clear s12 K9 hI7 hG7 ho hg hl hr O7 HO6
  rw [show (wrS (stG 4) 0 3 [97, 98] 0).gen = 1 from rfl, show ((((wrS (stG 4) 0 3 [97, 98] 0).bs.drop (3 : Int).toNat)).take (2 : Int).toNat) = [97, 98] from by decide] at K10
  go_wp2_with fail
  refine K10.out.mono ?_
  rintro e w13 ⟨B8, c8, rfl, s13⟩
  have lf : Lis w13 98 3 (.slice B7 1 d7) 1 (fvs [⟨7, 1, 9⟩]) := s13.lis 10 rfl
  obtain ⟨fb, fo, rfl, fc⟩ := lf.reads.2.resolve_left (by omega)
  have f0 : w13.cell? ⟨fb, fo, none⟩ = some (.int .i64 7) := fc 0 _ rfl
  have f1 : w13.cell? ⟨fb, fo + 1, none⟩ = some (.int .i64 1) := fc 1 _ rfl
  have f2 : w13.cell? ⟨fb, fo + 2, none⟩ = some (.int .i64 9) := fc 2 _ rfl
  obtain ⟨gb, go_, rfl, gc⟩ := (s13.lis 11 rfl).reads.2.resolve_left (by simp)
  have hconv : (convert 46 9 (.slice (some ⟨gb, go_, none⟩) 2 c8)).run Tryz.prog w13 = .ok (.string ⟨#[97, 98]⟩) w13 := run_convert_bytes_back (P := Tryz.prog) w13 46 9 5 ⟨gb, go_, none⟩ c8 [97, 98] Tryz.underlying46 Tryz.underlying5 Tryz.underlying9 (fun j hj => by
    rcases (show j = 0 ∨ j = 1 by simp at hj; omega) with rfl | rfl
    · exact gc 0 _ rfl
    · exact gc 1 _ rfl)
  have DN := Lib.hid (show St w None w13 [] from (s13.take 0))
  clear s13 K10 lf fc gc
  go_wp2_with fail
  go_ret
  exact ⟨rfl, DN.out⟩
end
end Go.Proofs.YtcbhhajcgfiigaaGreat
