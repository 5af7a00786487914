/-
  For every place, row of bytes and status IoqDone answers true, and changes nothing: a request that is started, taken, written, finished and reaped comes out as done, with what was written in its buffer, and that a task's; nothing beside the piece is touched. No condition.
-/
import Derived.Test.YtcbhhajcgfiigaaGreatRows
import Derived.Test.YtcbhhajcgfiigaaGreatFr
import Derived.Test.YtcbhhajcgfiigaaGreatIoqW
namespace Go.Proofs.YtcbhhajcgfiigaaGreat.ioqDone
open Go.ChangeShapes Go.WideShapes Go.ChangeAt Go.RowKit
set_option linter.unusedVariables false
theorem own : ownKnob Tryz.prog.godebug = none := by kernel_rfl
theorem laid : laidOutB Tryz.prog = true := by kernel_rfl
set_option maxRecDepth 100000
set_option maxHeartbeats 4000000
def rD (fr sz : Int) : Rq := ⟨3, 0, 100, 0, 0, 1, fr, sz, false, false, false, false⟩
theorem rep_get (n : Nat) {j : Nat} (h : j < n) : (List.replicate n (0 : Int))[j]? = some 0 := by simp [h]
/-- What the bytes are. -/
theorem wr_at {st : Nat → po.Buf} {fr : Nat} {xs : List Int} (hz : (st 0).bs = List.replicate 8 0) (hl : fr + xs.length ≤ 8) {j : Nat} (hj : j < 8) : (wrS st 0 fr xs 0).bs[j]? = some (if fr ≤ j ∧ j - fr < xs.length then xs.getD (j - fr) 0 else 0) := by
  unfold wrS
  rw [po.updB_self]
  show ((st 0).bs.take fr ++ (xs ++ (st 0).bs.drop (fr + xs.length)))[j]? = _
  rw [hz]
  have lt : (List.take fr (List.replicate 8 (0 : Int))).length = fr := by rw [List.length_take, List.length_replicate]; omega
  by_cases h1 : j < fr
  · rw [List.getElem?_append_left (by rw [lt]; exact h1), if_neg (by omega), List.getElem?_take, if_pos h1, rep_get 8 hj]
  · rw [List.getElem?_append_right (by rw [lt]; omega), lt]
    by_cases h2 : j - fr < xs.length
    · rw [List.getElem?_append_left h2, if_pos ⟨by omega, h2⟩, List.getD_eq_getElem?_getD, List.getElem?_eq_getElem h2]; rfl
    · rw [List.getElem?_append_right (by omega), if_neg (fun h => h2 h.2), List.getElem?_drop, rep_get 8 (by omega)]
theorem wr_len {st : Nat → po.Buf} {fr : Nat} {xs : List Int} (hz : (st 0).bs = List.replicate 8 0) (hl : fr + xs.length ≤ 8) : (wrS st 0 fr xs 0).bs.length = 8 := by
  unfold wrS
  rw [po.updB_self]
  show ((st 0).bs.take fr ++ (xs ++ (st 0).bs.drop (fr + xs.length))).length = _
  rw [hz]; simp; omega
theorem walk (a0 a1 : Int) (A : Option Addr) (n cap : Nat) (f : Nat → Int) (b : Int) (w : World) (b0 : 0 ≤ a0 ∧ a0 ≤ 255) (b1 : 0 ≤ a1 ∧ a1 ≤ 255) (bb : 0 ≤ b ∧ b ≤ 255) (hm : n ≤ maxLen) (rd : Rd w A n (fun j => .int .u8 (f j))) :
    Calls Tryz.prog 5 #[.agg #[.int .u8 a0, .int .u8 a1], .slice A n cap, .int .u8 b] w fun r w' => r = .returned (.bool true) ∧ Below w.heap.size w w' := by
  have MX := Lib.hid hm
  unfold maxLen at hm
  have RD := Lib.hid rd
  clear rd
  obtain ⟨fr, hfr⟩ : ∃ fr, a0 % 8 = fr := ⟨_, rfl⟩
  have f0 : 0 ≤ fr := by omega
  have f1 : fr < 8 := by omega
  have cf : Int.tmod a0 8 = fr := by rw [← hfr]; exact Int.tmod_eq_emod_of_nonneg (by omega)
  have cw8 : IntKind.i64.wrap (8 - fr) = 8 - fr := IntWalk.i64_in _ ⟨by omega, by omega⟩
  have cz8 : (8 - fr == 0) = false := beq_eq_false_iff_ne.2 (by omega)
  obtain ⟨m, hmm⟩ : ∃ m, a1 % (8 - fr) = m := ⟨_, rfl⟩
  have m0 : 0 ≤ m := by rw [← hmm]; exact Int.emod_nonneg _ (by omega)
  have m1 : m < 8 - fr := by rw [← hmm]; exact Int.emod_lt_of_pos _ (by omega)
  have cm : Int.tmod a1 (8 - fr) = m := by rw [← hmm]; exact Int.tmod_eq_emod_of_nonneg (by omega)
  have cmw : IntKind.i64.wrap (Int.tmod a1 (8 - fr)) = m := by rw [cm]; exact IntWalk.i64_in _ ⟨by omega, by omega⟩
  obtain ⟨sz, hsz⟩ : ∃ sz, 1 + m = sz := ⟨_, rfl⟩
  have cs : IntKind.i64.wrap (1 + m) = sz := by rw [← hsz]; exact IntWalk.i64_in _ ⟨by omega, by omega⟩
  have z0 : 1 ≤ sz := by omega
  have z1 : fr + sz ≤ 8 := by omega
  obtain ⟨F, hF⟩ := Int.eq_ofNat_of_zero_le f0
  have HF := Lib.hid hF
  clear hfr hmm hsz hF
  have sB := (St.begin w).box 96 #[.int .u8 a0, .int .u8 a1]
  rw [List.nil_append] at sB
  have AW := Lib.hid (awake_c (w.alloc (.cells #[.int .u8 a0, .int .u8 a1] 96)))
  obtain ⟨bx, hbx⟩ : ∃ bx, w.heap.size = bx := ⟨_, rfl⟩
  rw [hbx] at sB
  have hI0 : DvI 5 1 1 (Dv.new (stG 4) 5) := newI ⟨by omega, by omega⟩ rfl
  have hlen : ((stG 4 0).bs.length : Int) = 8 := by decide
  have hmay : mayR ((stG 4 0).bs.length : Nat) 0 (rD fr sz) := by
    rw [hlen]
    refine ⟨decide_eq_true ⟨rfl, f0, by show fr ≤ 8; omega, z0, by show sz ≤ 8 - fr; omega⟩, by show fr ≤ 65535; omega, by show (0 : Int) ≤ 0; omega, by show (0 : Int) ≤ 15; omega, ⟨by show (0 : Int) ≤ 3; omega, by show (3 : Int) ≤ 65535; omega⟩, ⟨by show (0 : Int) ≤ 100; omega, by show (100 : Int) < 4611686018427387904; omega⟩, by show (0 : Int) ≤ 0; omega, by show (0 : Int) ≤ 1048576; omega⟩
  obtain ⟨D0, hP1, O0⟩ := one_sub (i := 0) (r := rD fr sz) (c := 5) (stt := 0) (bad := false) hI0 rfl (by omega) rfl (show (1 : Int) = (stG 4 0).gen by decide) (by decide) hmay ⟨rfl, rfl, rfl⟩ (by show (5 : Int) < 100; omega)
  have hz0 : po.SizeP 5 (Dv.new (stG 4) 5).st 0 1 (((stG 4 0).bs.length : Nat) : Int) 0 := Or.inr ⟨0, by omega, rfl, by decide, by decide, rfl, rfl⟩
  have ho0 : po.OwnerP 5 (Dv.new (stG 4) 5).st 0 1 1 (stG 4 0).refs 0 := Or.inr ⟨0, by omega, rfl, by decide, by decide, by decide, rfl, rfl⟩
  have HI0 := Lib.hid hI0
  have HP1 := Lib.hid hP1
  have HZ0 := Lib.hid hz0
  have HW0 := Lib.hid ho0
  have HO0 := Lib.hid O0
  have HMY := Lib.hid hmay
  have SB := Lib.hid sB
  have HBX := Lib.hid hbx
  have HBB := Lib.hid bb
  have HRR := Lib.hid (And.intro f0 (And.intro f1 (And.intro z0 z1)))
  clear hI0 hP1 hz0 ho0 O0 hlen hmay sB
  go_enter Tryz.func5, Tryz.ntmps5
  go_wp2_with fail
  refine AW.out.mono ?_
  rintro e w0 ⟨rfl, sA⟩
  have s0 := SB.out.stay sA.below
  obtain ⟨e0, e1⟩ := (s0.blk 0 rfl).two
  have K0 := Lib.hid (got_c (s0.take 0))
  clear AW sA s0 SB
  go_wp2_with fail
  refine K0.out.mono ?_
  rintro e w1 ⟨p, rfl, s1⟩
  have K1 := Lib.hid (show Calls Tryz.prog 12 #[ptrV p, .int .i64 1, .int .u64 5] w1 (fun e w' => ∃ a : Da, a.p = p ∧ e = .returned (.tuple #[ptrV a.d, .int .i64 0]) ∧ St w None w' (DvL a 5 1 (fun _ => 0) (Dv.new (stG 4) 5) ++ [])) from newD_o (sz := 1) (c := 5) (X := []) s1 (fun _ => 0) (by omega) (by omega) rfl)
  clear s1 K0 e0 e1 hbx
  go_wp2_with fail
  refine K1.out.mono ?_
  rintro e w2 ⟨a, rfl, rfl, s2⟩
  have s3 := dv_box s2 37 #[.int .i64 0, .int .u64 1]
  rw [List.nil_append] at s3
  obtain ⟨hb, hhb⟩ : ∃ hb, w2.heap.size = hb := ⟨_, rfl⟩
  rw [hhb] at s3
  have BX := Lib.hid (show ∀ (V : World) (bq : Nat → Nat) (E : Dv) (Y : List Res), St w None V (DvL a 5 1 bq E ++ ([BlkR hb 37 #[.int .i64 0, .int .u64 1]] ++ Y)) → V.cell? ⟨hb, 0, none⟩ = some (.int .i64 0) ∧ V.cell? ⟨hb, 1, none⟩ = some (.int .u64 1) from fun V bq E Y s => (dv_blk s 0 rfl).two)
  have K2 := Lib.hid (show Calls Tryz.prog 18 #[ptrV a.d, .agg #[.int .i64 3, .int .i64 0, .int .u64 100, .int .i64 0, .int .i64 0, .int .u64 1, .int .i64 fr, .int .i64 sz]] _ _ from subD_o s3 HI0.out (rD fr sz) ⟨rfl, rfl, rfl, rfl⟩ (wf_small (by show _ ≤ (3 : Int); omega) (by show (3 : Int) ≤ _; omega)) (by show (0 : Int) ≤ 100; omega) (by show (100 : Int) ≤ _; omega) HZ0.out HW0.out HP1.out)
  obtain ⟨x0, x1⟩ := BX.out _ _ _ [] s3
  clear s2 s3 K1
  go_wp2_with fail
  refine K2.out.mono ?_
  rintro e w4 ⟨rfl, bq, s4⟩
  have K4 := Lib.hid (startW s4 HO0.out.I)
  clear s4 K2 x0 x1 cf cw8 cz8 m0 m1 cm cmw cs hhb
  go_wp2_with fail
  refine K4.out.mono ?_
  rintro e w6 ⟨B6, d6, ids, D2, rfl, -, -, hF, hI2, e1, e2, e3, -, e5, s6⟩
  obtain ⟨rfl, O2⟩ := HO0.out.start hI2 hF e1 e2 e3 e5
  have K5 := Lib.hid (takeW s6 hI2)
  have HO2 := Lib.hid O2
  clear s6 K4 hF hI2 e1 e2 e3 e5 O2
  go_wp2_with fail
  refine K5.out.mono ?_
  rintro e w7 ⟨D3, no, f3, d, rfl, hh, s7⟩
  obtain ⟨k3, st3, h31, h33, h34, rfl, h35, rfl, rfl, rfl⟩ : ∃ k st', D2.pst (D2.g.taken : Int) = some k ∧ KeepS 5 D2.st st' ∧ ((D2.rq k).vo = true → st' = D2.st) ∧ D3 = D2.tkD 0 ⟨D2.g.put, D2.g.taken + 1, D2.g.reaped, D2.g.D⟩ k st' ∧ DvI 5 1 1 D3 ∧ no = (D2.g.taken : Int) ∧ d = D2.g.D D2.g.taken ∧ f3 = 0 := by
    rcases hh with ⟨e, -⟩ | ⟨-, h1, h2, h3, k, st', h4, h5, h6, h7, h8, h9⟩
    · rw [HO2.out.hput, HO2.out.htaken] at e; omega
    · exact ⟨k, st', h4, h6, h7, h8, h9, h1, h2, h3⟩
  have O3 := HO2.out.take h31 h33 h35 h34
  obtain ⟨D3, hD3⟩ : ∃ D3, D2.tkD 0 ⟨D2.g.put, D2.g.taken + 1, D2.g.reaped, D2.g.D⟩ k3 st3 = D3 := ⟨_, rfl⟩
  rw [hD3] at O3 s7
  have his := HO2.out.is0.1
  have hsm := HO2.out.same
  rw [show (D2.g.taken : Int) = 0 from by rw [HO2.out.htaken]; rfl, HO2.out.htaken]
  obtain ⟨⟨q1, q2, q3, q4, q5, q6, q7, q8, q9⟩, hq⟩ : ∃ d : ri.Dsc, D2.g.D 0 = d := ⟨_, rfl⟩
  rw [hq] at his
  obtain rfl : q2 = 3 := his.req.trans hsm.id
  obtain rfl : q5 = fr := his.frm.trans hsm.frm
  obtain rfl : q6 = sz := his.len.trans hsm.len
  rw [hq]
  unfold ri.Dsc.v
  dsimp only
  have s8 := dv_box s7 66 #[.int .i64 q1, .int .i64 3, .int .i64 q3, .int .u64 q4, .int .i64 q5, .int .i64 q6, .bool q7, .bool q8, .int .i64 q9]
  obtain ⟨db, hdb⟩ : ∃ db, w7.heap.size = db := ⟨_, rfl⟩
  rw [hdb] at s8
  obtain ⟨xs, hxs⟩ : ∃ xs, (List.range n).map f = xs := ⟨_, rfl⟩
  have xl : xs.length = n := by rw [← hxs]; simp
  have rd8 := po.rds_below (po.rds_of_rd RD.out) s8.below
  rw [hxs] at rd8
  have K6 := Lib.hid (wrW (no := 0) (at' := 0) (cp := cap) s8 O3.I (by rw [xl]; exact MX.out) (by rw [xl]; exact rd8) (wf_small (by decide) (by decide)))
  rw [xl] at K6
  have XS := Lib.hid (And.intro hxs xl)
  have HO3 := Lib.hid O3
  have DB := Lib.hid (show ∀ (V : World) (bq : Nat → Nat) (E : Dv) (Y : List Res), St w None V (DvL a 5 1 bq E ++ ([BlkR hb 37 #[.int .i64 0, .int .u64 1]] ++ [LisR 3 1 (.slice B6 1 d6) 1 (iv [3])] ++ [BlkR db 66 #[.int .i64 q1, .int .i64 3, .int .i64 q3, .int .u64 q4, .int .i64 q5, .int .i64 q6, .bool q7, .bool q8, .int .i64 q9]] ++ Y)) → V.cell? ⟨db, 1, none⟩ = some (.int .i64 3) ∧ V.cell? ⟨db, 4, none⟩ = some (.int .i64 q5) ∧ V.cell? ⟨db, 5, none⟩ = some (.int .i64 q6) from fun V bq E Y s => by
    have b := dv_blk s 2 rfl
    exact ⟨b.cell 1, b.cell 4, b.cell 5⟩)
  clear s7 s8 rd8 K5 O3 h31 h33 h34 h35 hh hq hD3 xl hxs his hsm
  go_wp2_with fail
  refine K6.out.mono ?_
  rintro e w9 ⟨cw, st4, rfl, hP4, hI4, -, -, s9⟩
  clear hdb
  have hw := HO3.out.write (i := 0) (by omega) rfl hP4 hI4
  rw [XS.out.2] at hw
  have hw := Lib.hid hw
  clear K6 hP4 hI4
  by_cases hle : (n : Int) ≤ q6
  · as_aux_lemma =>
    obtain ⟨rfl, O4⟩ := hw.out.1 ⟨by omega, by show (0 : Int) ≤ q6; omega, by show (n : Int) ≤ q6 - 0; omega⟩
    have c1 : decide ((n : Int) ≤ q6) = true := decide_eq_true hle
    have zz : (stG 4 0).bs = List.replicate 8 0 := by decide
    have lx : F + xs.length ≤ 8 := by have := XS.out.2; have := HF.out; have := HRR.out; omega
    have eF : ((rD q5 q6).frm + 0).toNat = F := by show (q5 + 0).toNat = F; have := HF.out; omega
    rw [eF] at O4
    have CT := Lib.hid (show (wrS (stG 4) 0 F xs 0).bs.length = 8 ∧ (wrS (stG 4) 0 F xs 0).gen = 1 ∧ (wrS (stG 4) 0 F xs 0).owner = 1 ∧ ∀ j, j < 8 → (wrS (stG 4) 0 F xs 0).bs[j]? = some (if F ≤ j ∧ j - F < n then f (j - F) else 0) from ⟨wr_len zz lx, rfl, rfl, fun j hj => by
      rw [wr_at zz lx hj, XS.out.2]
      by_cases hc : F ≤ j ∧ j - F < n
      · rw [if_pos hc, if_pos hc, ← XS.out.1]; simp [hc.2]
      · rw [if_neg hc, if_neg hc]⟩)
    generalize wrS (stG 4) 0 F xs = stF at *
    clear zz lx eF
    obtain ⟨D4, hD4⟩ : ∃ D4, ({ D3 with st := st4 } : Dv) = D4 := ⟨_, rfl⟩
    rw [hD4] at O4 s9
    clear hD4
    obtain ⟨l8, lg, lo, -⟩ := CT.out
    have tw := O4.tells (i := 0) (by omega) (by rw [lo]; omega)
    rw [lg] at tw
    have K7 := Lib.hid (po.owner_o s9 1 rfl O4.I.c.pok tw.2)
    obtain ⟨x0, x1⟩ := BX.out _ _ _ _ s9
    have ow := O4.owner (i := 0) (by omega) rfl rfl (by omega) (by omega)
    rw [if_pos rfl] at ow
    have HO4 := Lib.hid O4
    have HOW := Lib.hid ow
    clear s9 O4 tw ow hle hw l8 lg lo
    go_wp2_with fail
    refine K7.out.mono ?_
    rintro e w10 ⟨rfl, s10⟩
    rw [HOW.out]
    replace s10 : St w None w10 (DvL a 5 1 bq D4 ++ _) := s10
    obtain ⟨g1, g4, g5⟩ := DB.out _ _ _ [] (by rw [List.append_nil]; exact s10)
    have K8 := Lib.hid (finW (no := 0) (stt := b) s10 HO4.out.I false (wf_small (by decide) (by decide)))
    clear s10 K7 x0 x1 HOW
    go_wp2_with fail
    refine K8.out.mono ?_
    rintro e w11 ⟨f5, g5', k5, rfl, hP5, hk5, hI5, s11⟩
    obtain ⟨rfl, O5⟩ := HO4.out.fin false HBB.out hP5 hk5 hI5
    have K9 := Lib.hid (reapW s11 O5.I)
    have HO5 := Lib.hid O5
    clear s11 K8 hP5 hk5 hI5 O5 HO4 g1 g4 g5 c1
    go_wp2_with fail
    refine K9.out.mono ?_
    rintro e w12 ⟨d6', f6, g6, k6, q6', st6, rfl, hP6, hk6, hI6, hK6, s12⟩
    obtain ⟨rfl, hreq, O6⟩ := HO5.out.reap hP6 hk6 hI6 hK6
    rw [if_pos rfl, hreq, show (rD q5 q6).id = 3 from rfl]
    generalize Dv.rpD _ _ _ _ _ _ _ = D6 at *
    have O6 : OneF 5 1 1 stF (rD q5 q6) 5 0 D6 1 1 1 true true false b [⟨3, 1, b⟩] := O6
    have K10 := Lib.hid (goW (u := 1) s12 O6.I (by omega))
    have HO6 := Lib.hid O6
    clear s12 K9 hP6 hk6 hI6 hK6 O6 HO5 hreq
    go_wp2_with fail
    refine K10.out.mono ?_
    rintro e w13 ⟨B7, m7, d7, o, D7, rfl, ho, hl, -, hI7, hG7, -, -, s13⟩
    obtain ⟨hg, rfl, O7⟩ := HO6.out.go (by omega) (by omega) ho hI7 hG7
    rw [hg]
    obtain rfl : m7 = 1 := hl.symm
    obtain ⟨fb, fo, rfl, fc⟩ := (dv_lis s13 3 rfl).reads.2.resolve_left (by omega)
    have ft0 : w13.cell? ⟨fb, fo, none⟩ = some (.int .i64 3) := fc 0 _ rfl
    have ft1 : w13.cell? ⟨fb, fo + 1, none⟩ = some (.int .i64 1) := fc 1 _ rfl
    have ft2 : w13.cell? ⟨fb, fo + 2, none⟩ = some (.int .i64 b) := fc 2 _ rfl
    obtain ⟨l8, lg, lo, -⟩ := CT.out
    have tw := O7.tells (i := 0) (by omega) (by rw [lo]; omega)
    rw [lg] at tw
    have K11 := Lib.hid (po.owner_o s13 1 rfl O7.I.c.pok tw.2)
    obtain ⟨x0, x1⟩ := BX.out _ _ _ _ s13
    have ow := O7.task (i := 0) (by omega) (by rw [lo]; omega)
    have HO7 := Lib.hid O7
    have HOW := Lib.hid ow
    clear s13 K10 hI7 hG7 ho hg hl O7 HO6 fc tw ow l8 lg lo
    go_wp2_with fail
    refine K11.out.mono ?_
    rintro e w14 ⟨rfl, s14⟩
    rw [HOW.out]
    replace s14 : St w None w14 (DvL a 5 1 bq D7 ++ _) := s14
    obtain ⟨l8, lg, lo, lc⟩ := CT.out
    have hr := HO7.out.reads (i := 0) (a := 0) (m := 8) (by omega) (by rw [lo]; omega) (by rw [l8]; exact ⟨by omega, by omega, by omega, by omega⟩)
    rw [lg] at hr
    have xc : ((stF 0).bs.drop (0 : Int).toNat).take (8 : Int).toNat = (stF 0).bs := by
      rw [show (0 : Int).toNat = 0 from rfl, show (8 : Int).toNat = 8 from rfl, List.drop_zero, List.take_of_length_le (by omega)]
    rw [xc] at hr
    have K12 := Lib.hid (po.read_o s14 1 rfl HO7.out.I.c.pok hr)
    rw [l8] at K12
    obtain ⟨x0, x1⟩ := BX.out _ _ _ _ s14
    have LC := Lib.hid lc
    clear s14 K11 HOW ft0 ft1 ft2 hr xc l8 lg lo lc CT
    go_wp2_with fail
    refine K12.out.mono ?_
    rintro e w15 ⟨B8, c8, rfl, s15⟩
    obtain ⟨gb, gf, rfl, gc⟩ := (s15.lis 12 rfl).reads.2.resolve_left (by omega)
    have GC := Lib.hid (show ∀ (j : Nat) (V : Int), (stF 0).bs[j]? = some V → w15.cell? ⟨gb, gf + j, none⟩ = some (.int .u8 V) from fun j V h => gc j _ (po.bys_get h))
    have SE := Lib.hid s15
    clear s15 K12 gc x0 x1
    go_wp2_with fail
    go_loopw [31, 32] (fun x31 x32 wr => ∃ k : Nat, k ≤ 8 ∧ x31 = .int .i64 (k : Int) ∧ wr = w15) (fun x31 _ _ => 8 - (intOf x31).toNat)
    case atStart => exact ⟨0, by omega, rfl, rfl⟩
    case round =>
    obtain ⟨k, hk, rfl, rfl⟩ := hrel
    by_cases hlt : k < 8
    · have z1' : decide ((k : Int) < 8) = true := decide_eq_true (by omega)
      have z1'' : decide (k < 8) = true := decide_eq_true hlt
      by_cases hc : F ≤ k ∧ k - F < n
      · have hv := LC.out k hlt
        rw [if_pos hc] at hv
        have v0 := GC.out k _ hv
        obtain ⟨m, hmk⟩ : ∃ m : Nat, k - F = m := ⟨_, rfl⟩
        rw [hmk] at v0 hc
        have hF := HF.out
        obtain ⟨ib, off, rfl, hib, hrd⟩ := RD.out (by omega)
        have e0 : wr.cell? ⟨ib, off + m, none⟩ = some (.int .u8 (f m)) := ((SE.out.take 0).below.cell (p := ⟨ib, off + m, none⟩) hib).trans (hrd m hc.2)
        generalize f m = fm at *
        have t1 : decide (q5 ≤ (k : Int)) = true := decide_eq_true (by omega)
        have t2 : IntKind.i64.wrap ((k : Int) - q5) = (m : Int) := by rw [show (k : Int) - q5 = (m : Int) by omega]; exact IntWalk.i64_in _ ⟨by omega, by omega⟩
        have t3 : decide ((m : Int) < (n : Int)) = true := decide_eq_true (by omega)
        have t3' : decide (m < n) = true := decide_eq_true hc.2
        have mn := hc.2
        have mn' : (m : Int) < (n : Int) := by omega
        clear hF hrd hc hmk
        go_wp2_with fail
        go_roundw
        case rel => exact ⟨k + 1, by omega, by go_num, by first | rfl | trivial⟩
        case measure => simp [intOf]; omega
      · have hv := LC.out k hlt
        rw [if_neg hc] at hv
        have v0 := GC.out k _ hv
        have hF := HF.out
        by_cases h1 : F ≤ k
        · have t1 : decide (q5 ≤ (k : Int)) = true := decide_eq_true (by omega)
          obtain ⟨m, hmk⟩ : ∃ m : Nat, k - F = m := ⟨_, rfl⟩
          have t2 : IntKind.i64.wrap ((k : Int) - q5) = (m : Int) := by rw [show (k : Int) - q5 = (m : Int) by omega]; exact IntWalk.i64_in _ ⟨by omega, by omega⟩
          have t3 : decide ((m : Int) < (n : Int)) = false := decide_eq_false (by omega)
          have t3' : decide (m < n) = false := decide_eq_false (by omega)
          clear hF hc hmk h1
          go_wp2_with fail
          go_roundw
          case rel => exact ⟨k + 1, by omega, by go_num, by first | rfl | trivial⟩
          case measure => simp [intOf]; omega
        · have t1 : decide (q5 ≤ (k : Int)) = false := decide_eq_false (by omega)
          clear hF hc h1
          go_wp2_with fail
          go_roundw
          case rel => exact ⟨k + 1, by omega, by go_num, by first | rfl | trivial⟩
          case measure => simp [intOf]; omega
    · obtain rfl : k = 8 := by omega
      have DN := Lib.hid (SE.out.take 0).below
      go_wp2_with fail
      go_ret
      exact ⟨rfl, DN.out⟩
  · as_aux_lemma =>
    obtain ⟨rfl, O4⟩ := hw.out.2 (fun h => hle (by have := h.2.2; show (n : Int) ≤ q6; have : (n : Int) ≤ q6 - 0 := this; omega))
    have c1 : decide ((n : Int) ≤ q6) = false := decide_eq_false hle
    have CT := Lib.hid (show (stG 4 0).bs.length = 8 ∧ (stG 4 0).gen = 1 ∧ (stG 4 0).owner = 1 ∧ ∀ j, j < 8 → (stG 4 0).bs[j]? = some (0 : Int) from ⟨by decide, by decide, by decide, fun j hj => by
      rw [show (stG 4 0).bs = List.replicate 8 0 from by decide]; exact rep_get 8 hj⟩)
    generalize stG 4 = stF at *
    obtain ⟨D4, hD4⟩ : ∃ D4, ({ D3 with st := st4 } : Dv) = D4 := ⟨_, rfl⟩
    rw [hD4] at O4 s9
    clear hD4
    obtain ⟨l8, lg, lo, -⟩ := CT.out
    have tw := O4.tells (i := 0) (by omega) (by rw [lo]; omega)
    rw [lg] at tw
    have K7 := Lib.hid (po.owner_o s9 1 rfl O4.I.c.pok tw.2)
    obtain ⟨x0, x1⟩ := BX.out _ _ _ _ s9
    have ow := O4.owner (i := 0) (by omega) rfl rfl (by omega) (by omega)
    rw [if_pos rfl] at ow
    have HO4 := Lib.hid O4
    have HOW := Lib.hid ow
    clear s9 O4 tw ow hle hw l8 lg lo
    go_wp2_with fail
    refine K7.out.mono ?_
    rintro e w10 ⟨rfl, s10⟩
    rw [HOW.out]
    replace s10 : St w None w10 (DvL a 5 1 bq D4 ++ _) := s10
    obtain ⟨g1, g4, g5⟩ := DB.out _ _ _ [] (by rw [List.append_nil]; exact s10)
    have K8 := Lib.hid (finW (no := 0) (stt := b) s10 HO4.out.I false (wf_small (by decide) (by decide)))
    clear s10 K7 x0 x1 HOW
    go_wp2_with fail
    refine K8.out.mono ?_
    rintro e w11 ⟨f5, g5', k5, rfl, hP5, hk5, hI5, s11⟩
    obtain ⟨rfl, O5⟩ := HO4.out.fin false HBB.out hP5 hk5 hI5
    have K9 := Lib.hid (reapW s11 O5.I)
    have HO5 := Lib.hid O5
    clear s11 K8 hP5 hk5 hI5 O5 HO4 g1 g4 g5 c1
    go_wp2_with fail
    refine K9.out.mono ?_
    rintro e w12 ⟨d6', f6, g6, k6, q6', st6, rfl, hP6, hk6, hI6, hK6, s12⟩
    obtain ⟨rfl, hreq, O6⟩ := HO5.out.reap hP6 hk6 hI6 hK6
    rw [if_pos rfl, hreq, show (rD q5 q6).id = 3 from rfl]
    generalize Dv.rpD _ _ _ _ _ _ _ = D6 at *
    have O6 : OneF 5 1 1 stF (rD q5 q6) 5 0 D6 1 1 1 true true false b [⟨3, 1, b⟩] := O6
    have K10 := Lib.hid (goW (u := 1) s12 O6.I (by omega))
    have HO6 := Lib.hid O6
    clear s12 K9 hP6 hk6 hI6 hK6 O6 HO5 hreq
    go_wp2_with fail
    refine K10.out.mono ?_
    rintro e w13 ⟨B7, m7, d7, o, D7, rfl, ho, hl, -, hI7, hG7, -, -, s13⟩
    obtain ⟨hg, rfl, O7⟩ := HO6.out.go (by omega) (by omega) ho hI7 hG7
    rw [hg]
    obtain rfl : m7 = 1 := hl.symm
    obtain ⟨fb, fo, rfl, fc⟩ := (dv_lis s13 3 rfl).reads.2.resolve_left (by omega)
    have ft0 : w13.cell? ⟨fb, fo, none⟩ = some (.int .i64 3) := fc 0 _ rfl
    have ft1 : w13.cell? ⟨fb, fo + 1, none⟩ = some (.int .i64 1) := fc 1 _ rfl
    have ft2 : w13.cell? ⟨fb, fo + 2, none⟩ = some (.int .i64 b) := fc 2 _ rfl
    obtain ⟨l8, lg, lo, -⟩ := CT.out
    have tw := O7.tells (i := 0) (by omega) (by rw [lo]; omega)
    rw [lg] at tw
    have K11 := Lib.hid (po.owner_o s13 1 rfl O7.I.c.pok tw.2)
    obtain ⟨x0, x1⟩ := BX.out _ _ _ _ s13
    have ow := O7.task (i := 0) (by omega) (by rw [lo]; omega)
    have HO7 := Lib.hid O7
    have HOW := Lib.hid ow
    clear s13 K10 hI7 hG7 ho hg hl O7 HO6 fc tw ow l8 lg lo
    go_wp2_with fail
    refine K11.out.mono ?_
    rintro e w14 ⟨rfl, s14⟩
    rw [HOW.out]
    replace s14 : St w None w14 (DvL a 5 1 bq D7 ++ _) := s14
    obtain ⟨l8, lg, lo, lc⟩ := CT.out
    have hr := HO7.out.reads (i := 0) (a := 0) (m := 8) (by omega) (by rw [lo]; omega) (by rw [l8]; exact ⟨by omega, by omega, by omega, by omega⟩)
    rw [lg] at hr
    have xc : ((stF 0).bs.drop (0 : Int).toNat).take (8 : Int).toNat = (stF 0).bs := by
      rw [show (0 : Int).toNat = 0 from rfl, show (8 : Int).toNat = 8 from rfl, List.drop_zero, List.take_of_length_le (by omega)]
    rw [xc] at hr
    have K12 := Lib.hid (po.read_o s14 1 rfl HO7.out.I.c.pok hr)
    rw [l8] at K12
    obtain ⟨x0, x1⟩ := BX.out _ _ _ _ s14
    have LC := Lib.hid lc
    clear s14 K11 HOW ft0 ft1 ft2 hr xc l8 lg lo lc CT
    go_wp2_with fail
    refine K12.out.mono ?_
    rintro e w15 ⟨B8, c8, rfl, s15⟩
    obtain ⟨gb, gf, rfl, gc⟩ := (s15.lis 12 rfl).reads.2.resolve_left (by omega)
    have GC := Lib.hid (show ∀ (j : Nat) (V : Int), (stF 0).bs[j]? = some V → w15.cell? ⟨gb, gf + j, none⟩ = some (.int .u8 V) from fun j V h => gc j _ (po.bys_get h))
    have SE := Lib.hid s15
    clear s15 K12 gc x0 x1
    go_wp2_with fail
    go_loopw [31, 32] (fun x31 x32 wr => ∃ k : Nat, k ≤ 8 ∧ x31 = .int .i64 (k : Int) ∧ wr = w15) (fun x31 _ _ => 8 - (intOf x31).toNat)
    case atStart => exact ⟨0, by omega, rfl, rfl⟩
    case round =>
    obtain ⟨k, hk, rfl, rfl⟩ := hrel
    by_cases hlt : k < 8
    · have z1' : decide ((k : Int) < 8) = true := decide_eq_true (by omega)
      have z1'' : decide (k < 8) = true := decide_eq_true hlt
      have v0 := GC.out k _ (LC.out k hlt)
      go_wp2_with fail
      go_roundw
      case rel => exact ⟨k + 1, by omega, by go_num, by first | rfl | trivial⟩
      case measure => simp [intOf]; omega
    · obtain rfl : k = 8 := by omega
      have DN := Lib.hid (SE.out.take 0).below
      go_wp2_with fail
      go_ret
      exact ⟨rfl, DN.out⟩

set_option maxRecDepth 100000 in
theorem lifted (os : Os) (started : os.Started) (H : Type) (enc : TypeId × Value → H) :
    ReturnsInHanded {} Tryz.checked os 5 .any (Rows.ioqDoneSpec.pre6 enc Tryz.prog Tryz.f5 Rows.ioqDoneRow.domain false) (Rows.ioqDoneSpec.post enc Tryz.prog Tryz.f5 false true false false) := by
  refine law_lifted (C := Tryz.checked) (tb := 4) own started (by kernel_rfl) Tryz.func5
    (ChangeSpec.witness6 (enc := enc) (C := Tryz.checked) false ⟨#[], #[.agg #[.int .u8 0, .int .u8 0], .slice none 0 0, .int .u8 0], []⟩ 8 (by kernel_rfl) (by kernel_rfl) (by kernel_rfl) (by kernel_rfl)) laid (by kernel_rfl) (by kernel_rfl) Tryz.underlying4 rfl ?_
  intro W base args ds ps hval0 hA0 hlt
  have hval : ∀ (j : Nat) t v, Tryz.f5.params[j]? = some t → args[j]? = some v → Value.okWide Tryz.prog W .any base t v := hval0
  have hA : DataW.TrodAll enc Tryz.prog W 0 (fun _ => true) true Tryz.f5.params.toList args.toList ds ps := hA0
  clear hA0 hval0
  rw [Tryz.params5] at hA hval
  obtain ⟨v0, vs0, d0, ds0, p0, q0, hargs, rfl, rfl, h0, r0⟩ := trodAll_cons hA
  obtain ⟨v1, vs1, d1, ds1, p1, q1, rfl, rfl, rfl, h1, r1⟩ := trodAll_cons r0
  obtain ⟨v2, vs2, d2, ds2, p2, q2, rfl, rfl, rfl, h2, r2⟩ := trodAll_cons r1
  obtain ⟨rfl, rfl, rfl⟩ := trodAll_nil r2
  obtain rfl : args = #[v0, v1, v2] := by cases args; simp_all
  obtain ⟨cs0, rfl, sz0, ok0⟩ := open_flat (ts := [5, 5]) (Or.inr ⟨_, _, Tryz.underlying96⟩) (by kernel_rfl) (by kernel_rfl) (hval 0 96 v0 rfl rfl)
  obtain ⟨c0_0, c0_1, rfl⟩ := size2 sz0
  obtain ⟨a0_0, rfl, w0_0⟩ := cell_int Tryz.underlying5 (ok0 0 _ _ rfl rfl)
  obtain ⟨a0_1, rfl, w0_1⟩ := cell_int Tryz.underlying5 (ok0 1 _ _ rfl rfl)
  obtain ⟨A1, n1, cap1, f1, rfl, le1, mx1, wf1, rd1⟩ := open_slice_ints Tryz.underlying46 Tryz.underlying5 (by kernel_rfl) (hval 1 46 v1 rfl rfl) h1
  obtain ⟨a2, rfl, rfl, rfl, w2⟩ := open_int Tryz.underlying5 (hval 2 5 v2 rfl rfl) h2
  refine ⟨⟨rfl, rfl, rfl⟩, ?_⟩
  exact walk a0_0 a0_1 A1 n1 cap1 f1 a2 W (bounds_u8 w0_0) (bounds_u8 w0_1) (bounds_u8 w2) (by omega) rd1

theorem over : Rows.ioqDoneRow.holds Tryz.pinned (OpenSpec.ofChange Rows.ioqDoneSpec) :=
  OpenClaim.holds_of_wide 5 Tryz.f5 rfl rfl rfl rfl rfl rfl rfl ⟨rfl, rfl, rfl, rfl, rfl⟩ rfl rfl rfl rfl rfl (by kernel_rfl) Tryz.func5 (by kernel_rfl)
    (of_decide_eq_true (by kernel_rfl)) (by unfold Func.isWrapper; first | (rw [if_pos (by decide +kernel)]; kernel_rfl) | (rw [if_neg (by decide +kernel)]; exact ⟨rfl, rfl⟩))
    (fun os started H enc _ => lifted os started H enc)
theorem proved : Rows.IoqDoneSaid := over
#print axioms proved
end Go.Proofs.YtcbhhajcgfiigaaGreat.ioqDone
