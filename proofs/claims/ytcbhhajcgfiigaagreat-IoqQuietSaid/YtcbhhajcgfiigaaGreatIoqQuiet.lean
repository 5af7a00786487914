/-
  For every size, cost and script IoqQuiet answers true, and changes nothing: whatever the device does, it writes no buffer but those whose descriptors it took, and that haven't come out; as soon as all have come out all buffers are tasks'. No condition.
-/
import Derived.Test.YtcbhhajcgfiigaaGreatRows
import Derived.Test.YtcbhhajcgfiigaaGreatFr
import Derived.Test.YtcbhhajcgfiigaaGreatIoqX
import Derived.Test.YtcbhhajcgfiigaaGreatIoqJ
import Derived.Test.YtcbhhajcgfiigaaGreatOpen
namespace Go.Proofs.YtcbhhajcgfiigaaGreat.ioqQuiet
open Go.ChangeShapes Go.WideShapes Go.ChangeAt Go.RowKit
set_option linter.unusedVariables false
theorem own : ownKnob Tryz.prog.godebug = none := by kernel_rfl
theorem laid : laidOutB Tryz.prog = true := by kernel_rfl
set_option maxRecDepth 100000
set_option maxHeartbeats 8000000
structure Do where
  k : Int
  id : Int
  op : Int
  dead : Int
  tr : Int
  sl : Int
  ge : Int
  fr : Int
  ln : Int
  no : Int
  at' : Int
instance : Inhabited Do := ⟨⟨0, 0, 0, 0, 0, 0, 0, 0, 0, 0, 0⟩⟩
def Steps (w : World) (V : Nat → Nat → Value) (n : Nat) (D : Nat → Do) : Prop := ∀ j, j < n → (V j 0 = .int .i64 (D j).k ∧ V j 1 = .int .i64 (D j).id ∧ V j 2 = .int .i64 (D j).op ∧ V j 3 = .int .u64 (D j).dead ∧ V j 4 = .int .i64 (D j).tr ∧ V j 5 = .int .i64 (D j).sl ∧ V j 6 = .int .u64 (D j).ge ∧ V j 7 = .int .i64 (D j).fr ∧ V j 8 = .int .i64 (D j).ln ∧ V j 9 = .int .i64 (D j).no ∧ V j 10 = .int .i64 (D j).at') ∧ (wfI (D j).id ∧ wfI (D j).no) ∧ (0 ≤ (D j).dead ∧ (D j).dead ≤ 18446744073709551615) ∧ (-9223372036854775808 ≤ (D j).at' ∧ (D j).at' ≤ 9223372036854775807) ∧
  ∃ (B : Option Addr) (c : Nat) (xs : List Int), V j 11 = .slice B xs.length c ∧ xs.length ≤ maxLen ∧ ∀ w', Below w.heap.size w w' → Rds w' B xs.length 1 (po.bys xs)
theorem small_c {w : World} {A : Option Addr} {n cap : Nat} {V : Nat → Nat → Value} (rd : RdM w A n 12 V) (hV : ∀ j, j < n → ∃ B m c, V j 11 = .slice B m c) (hn : n ≤ maxLen) :
    Calls Tryz.prog 10 #[.slice A n cap] w fun e w' => ∃ b, e = .returned (.bool b) ∧ Below w.heap.size w w' := by
  unfold maxLen at hn
  go_enter Tryz.func10, Tryz.ntmps10
  go_wp2_with fail
  go_loopw [3] (fun i wr => ∃ k : Nat, k ≤ n ∧ k ≤ 120 ∧ i = .int .i64 k ∧ Below w.heap.size w wr) (fun i _ => 120 - (intOf i).toNat)
  case atStart => exact ⟨0, by omega, by omega, rfl, Below.refl _ _⟩
  case round =>
    obtain ⟨k, hk, hk2, rfl, hbl⟩ := hrel
    by_cases hlt : k < n
    · have d0 : decide ((k : Int) < (n : Int)) = true := decide_eq_true (by omega)
      by_cases h120 : k < 120
      · have d1 : decide ((k : Int) < 120) = true := decide_eq_true (by omega)
        obtain ⟨B, m, c, hv⟩ := hV k hlt
        obtain ⟨ib, off, rfl, -, hc⟩ := rd (by omega)
        have e5 : wr.cell? ⟨ib, off + k * 12 + 11, none⟩ = some (.slice B m c) := by
          have h := hc k hlt 11 (by omega)
          rw [hv] at h
          rw [Nat.add_assoc]
          exact (hbl.cell (p := ⟨ib, off + (k * 12 + 11), none⟩) (block_lt h)).trans h
        by_cases q : 100 < (m : Int)
        · have z1 : decide (100 < (m : Int)) = true := decide_eq_true q
          go_wp2_with fail
          go_ret
          exact ⟨_, rfl, hbl⟩
        · have z1 : decide (100 < (m : Int)) = false := decide_eq_false q
          go_wp2_with fail
          go_roundw
          case rel => exact ⟨k + 1, by omega, by omega, by go_num, hbl⟩
          case measure => simp [intOf]; omega
      · have d1 : decide ((k : Int) < 120) = false := decide_eq_false (by omega)
        go_wp2_with fail
        go_ret
        exact ⟨_, rfl, hbl⟩
    · have d0 : decide ((k : Int) < (n : Int)) = false := decide_eq_false (by omega)
      go_wp2_with fail
      go_ret
      exact ⟨_, rfl, hbl⟩
theorem drop_mid {w0 w : World} {S0 : Nat → Prop} {A C : List Res} {R : Res} (h : St w0 S0 w (A ++ [R] ++ C)) : St w0 S0 w (A ++ C) := by
  have h2 := h.drop A.length (by simp)
  have e : (A ++ [R] ++ C).eraseIdx A.length = A ++ C := by
    rw [List.append_assoc, List.eraseIdx_append_of_length_le (Nat.le_refl _), Nat.sub_self]; rfl
  rw [e] at h2; exact h2
theorem mid_blk {w0 w : World} {S0 : Nat → Prop} {A C : List Res} {g : Nat} {t : TypeId} {cs : Array Value} (h : St w0 S0 w (A ++ [BlkR g t cs] ++ C)) : Blk w g t cs :=
  h.blk A.length (by rw [List.append_assoc, List.getElem?_append_right (Nat.le_refl _), Nat.sub_self]; rfl)
theorem st_pre {w0 w : World} {S0 : Nat → Prop} {A C : List Res} (h : St w0 S0 w (A ++ C)) : St w0 S0 w A := by
  have h2 := h.take A.length
  rwa [List.take_left] at h2
theorem ltr_in {now n : Int} (h : 0 ≤ n) : now ≤ ltr now n ∧ ltr now n ≤ now + 199 := by
  unfold ltr; rw [if_neg (by omega)]; omega
theorem ltr_any (now n : Int) : now ≤ ltr now n ∧ ltr now n ≤ now + 199 := by
  unfold ltr; split <;> omega
/-- A step's cells. -/
def dcs (k id op dead tr sl ge fr ln no at' : Int) (B : Option Addr) (m c : Nat) : Array Value := #[.int .i64 k, .int .i64 id, .int .i64 op, .int .u64 dead, .int .i64 tr, .int .i64 sl, .int .u64 ge, .int .i64 fr, .int .i64 ln, .int .i64 no, .int .i64 at', .slice B m c]
/-- What was read of the buffers. -/
def wasV (B : Nat → Option Addr) (c : Nat → Nat) (k : Nat) (j : Nat) : Value := if j < k then .slice (B j) (lenG j) (c j) else .slice none 0 0
def ownV (D : Dv) (k : Nat) (j : Nat) : Value := .int .i64 (if j < k then (D.st j).owner else 0)
def wasR (D : Dv) (B : Nat → Option Addr) (c : Nat → Nat) (j : Nat) : Res := LisR 5 1 (.slice (B j) (lenG j) (c j)) (lenG j) (po.bys (D.st j).bs)
def WasL (D : Dv) (wb ob k : Nat) (B : Nat → Option Addr) (c : Nat → Nat) : List Res := [ArrR wb 87 4 (wasV B c k), ArrR ob 88 4 (ownV D k)] ++ (List.range k).map (wasR D B c)
theorem was_reads {w0 w : World} {S0 : Nat → Prop} {a : Da} {sz : Nat} {bq : Nat → Nat} {E D : Dv} {R : Res} {wb ob k : Nat} {B : Nat → Option Addr} {c : Nat → Nat} {Y : List Res} (s : St w0 S0 w (DvL a 5 sz bq E ++ ((R :: WasL D wb ob 4 B c) ++ Y))) (hk : k < 4) :
    w.cell? ⟨wb, k, none⟩ = some (.slice (B k) (lenG k) (c k)) ∧ w.cell? ⟨ob, k, none⟩ = some (.int .i64 (D.st k).owner) ∧ Lis w 5 1 (.slice (B k) (lenG k) (c k)) (lenG k) (po.bys (D.st k).bs) := by
  have s' : St w0 S0 w ((DvL a 5 sz bq E ++ [R, ArrR wb 87 4 (wasV B c 4), ArrR ob 88 4 (ownV D 4)] ++ (List.range 4).map (wasR D B c)) ++ Y) := by
    simp only [WasL, List.append_assoc, List.cons_append, List.nil_append] at s ⊢; exact s
  have h1 := s'.arr_cell 9 rfl hk
  have h2 := s'.arr_cell 10 rfl hk
  have h3 := s'.lis (11 + k) (e := 5) (size := 1) (v := .slice (B k) (lenG k) (c k)) (n := lenG k) (xs := po.bys (D.st k).bs) (by
    rw [List.getElem?_append_left (by simp [DvL]; omega)]
    exact fam_at (DvL a 5 sz bq E ++ [R, ArrR wb 87 4 (wasV B c 4), ArrR ob 88 4 (ownV D 4)]) (wasR D B c) hk)
  unfold wasV at h1
  unfold ownV at h2
  rw [if_pos hk] at h1 h2
  exact ⟨h1, h2, h3⟩
theorem walk (s c0 : Int) (A : Option Addr) (n cap : Nat) (V : Nat → Nat → Value) (DD : Nat → Do) (w : World) (bs : 0 ≤ s ∧ s ≤ 255) (bc : 0 ≤ c0 ∧ c0 ≤ 255) (hn : n ≤ maxLen) (rd : RdM w A n 12 V) (hD : Steps w V n DD) :
    Calls Tryz.prog 4 #[.int .u8 s, .int .u8 c0, .slice A n cap] w fun r w' => r = .returned (.bool true) ∧ Below w.heap.size w w' := by
  have SL := Lib.hid (fun (w1 : World) (hb : Below w.heap.size w w1) => small_c (w := w1) (cap := cap) (rd.below hb (Nat.le_refl _)) (fun j hj => by obtain ⟨⟨-, -, -, -, -, -, -, -, -, -, -⟩, -, -, -, B, c, xs, h, -⟩ := hD j hj; exact ⟨B, _, c, h⟩) hn)
  have RD := Lib.hid rd
  have HD := Lib.hid hD
  unfold maxLen at hn
  obtain ⟨m, hm⟩ : ∃ m, s % 8 = m := ⟨_, rfl⟩
  have cm : Int.tmod s 8 = m := by rw [← hm]; exact Int.tmod_eq_emod_of_nonneg (by omega)
  have m0 : 0 ≤ m := by omega
  have m1 : m < 8 := by omega
  obtain ⟨sz, hsz⟩ : ∃ sz : Nat, 1 + m = (sz : Int) := ⟨(1 + m).toNat, by omega⟩
  have cs : IntKind.i64.wrap (1 + m) = (sz : Int) := by rw [← hsz]; exact IntWalk.i64_in _ ⟨by omega, by omega⟩
  obtain ⟨q, hq⟩ : ∃ q, c0 % 20 = q := ⟨_, rfl⟩
  have cq : Int.tmod c0 20 = q := by rw [← hq]; exact Int.tmod_eq_emod_of_nonneg (by omega)
  have q0 : 0 ≤ q := by omega
  have q1 : q < 20 := by omega
  obtain ⟨ct, hct⟩ : ∃ ct, 1 + q = ct := ⟨_, rfl⟩
  have cqw : IntKind.u64.wrap c0 = c0 := IntWalk.u64_in _ ⟨by omega, by omega⟩
  have cqq : IntKind.u64.wrap q = q := IntWalk.u64_in _ ⟨by omega, by omega⟩
  have cc : IntKind.u64.wrap (1 + q) = ct := by rw [← hct]; exact IntWalk.u64_in _ ⟨by omega, by omega⟩
  have SZ := Lib.hid (show 1 ≤ sz ∧ sz ≤ 64 by omega)
  have CT := Lib.hid (show 1 ≤ ct ∧ newA ct = 0 from ⟨by omega, by unfold newA; rw [if_neg (by omega)]⟩)
  have AW := Lib.hid (awake_c w)
  clear hD rd hm hsz hq hct
  go_enter Tryz.func4, Tryz.ntmps4
  go_wp2_with fail
  refine AW.out.mono ?_
  rintro e w0 ⟨rfl, s0⟩
  have s0' := s0.below
  clear AW
  go_wp2_with fail
  refine (SL.out w0 s0').mono ?_
  rintro e w1 ⟨b, rfl, hb⟩
  have s1 := s0.stay hb
  clear s0 s0' hb SL
  cases b with
  | false =>
    go_wp2_with fail
    go_ret
    exact ⟨rfl, s1.below⟩
  | true =>
  have K0 := Lib.hid (got_c s1)
  clear s1
  go_wp2_with fail
  refine K0.out.mono ?_
  rintro e w2 ⟨p, rfl, s2⟩
  have K1 := Lib.hid (newD_o (sz := sz) (c := ct) (X := []) s2 (fun _ => 0) SZ.out.1 SZ.out.2 CT.out.2)
  clear s2 K0
  go_wp2_with fail
  refine K1.out.mono ?_
  rintro e w3 ⟨a, rfl, rfl, s3⟩
  have S3 := Lib.hid s3
  clear s3 K1 cm cs cq cqw cqq cc m0 m1 q0 q1
  go_wp2_with fail
  go_loopw [10, 11, 12, 13, 14, 15, 16, 17, 18, 19, 20, 21, 22, 23, 24, 25] (fun x10 x11 x12 _ _ _ _ _ _ _ _ _ _ _ _ _ wr => ∃ (i : Nat) (op now : Int) (D : Dv) (bq : Nat → Nat), i ≤ n ∧ i ≤ 120 ∧ x10 = .int .u64 now ∧ x11 = .int .i64 op ∧ x12 = .int .i64 (i : Int) ∧ QtI sz i ct op now D ∧ St w None wr (DvL a 5 sz bq D ++ [])) (fun _ _ x12 _ _ _ _ _ _ _ _ _ _ _ _ _ _ => 120 - (intOf x12).toNat)
  case atStart => exact ⟨0, 0, 0, Dv.new (stG 4) ct, fun _ => 0, by omega, by omega, rfl, rfl, rfl, qt_new SZ.out CT.out.2, S3.out⟩
  case round =>
  clear S3
  obtain ⟨i, op, now, D, bq, hin, hi120, rfl, rfl, rfl, hQ, sr⟩ := hrel
  have HQ := Lib.hid hQ
  by_cases hgo : i < n ∧ i < 120
  · obtain ⟨hlt, h120⟩ := hgo
    have d0 : decide ((i : Int) < (n : Int)) = true := decide_eq_true (by omega)
    have d1 : decide ((i : Int) < 120) = true := decide_eq_true (by omega)
    obtain ⟨⟨v0, v1, v2, v3, v4, v5, v6, v7, v8, v9, v10⟩, ⟨hwid, hwno⟩, hdd, hat, Bx, cx, xs, v11, hxl, hxr⟩ := HD.out i hlt
    obtain ⟨ib, off, rfl, hc⟩ := RD.out.at_ (sr.take 0).below hlt
    have e0 := hc 0 (by omega)
    have e1 := hc 1 (by omega)
    have e2 := hc 2 (by omega)
    have e3 := hc 3 (by omega)
    have e4 := hc 4 (by omega)
    have e5 := hc 5 (by omega)
    have e6 := hc 6 (by omega)
    have e7 := hc 7 (by omega)
    have e8 := hc 8 (by omega)
    have e9 := hc 9 (by omega)
    have e10 := hc 10 (by omega)
    have e11 := hc 11 (by omega)
    rw [v0] at e0
    rw [v1] at e1
    rw [v2] at e2
    rw [v3] at e3
    rw [v4] at e4
    rw [v5] at e5
    rw [v6] at e6
    rw [v7] at e7
    rw [v8] at e8
    rw [v9] at e9
    rw [v10] at e10
    rw [v11] at e11
    rw [Nat.add_zero] at e0
    generalize (DD i).k = kd at *
    generalize (DD i).id = id at *
    generalize (DD i).op = ro at *
    generalize (DD i).dead = de at *
    generalize (DD i).tr = tr at *
    generalize (DD i).sl = sl at *
    generalize (DD i).ge = ge at *
    generalize (DD i).fr = fr at *
    generalize (DD i).ln = ln at *
    generalize (DD i).no = no at *
    generalize (DD i).at' = at' at *
    have WF := Lib.hid (And.intro hwid hwno)
    have HXR := Lib.hid (And.intro hxl hxr)
    have HDD := Lib.hid hdd
    have HAT := Lib.hid hat
    have s1 := dv_box sr 48 (dcs kd id ro de tr sl ge fr ln no at' Bx xs.length cx)
    obtain ⟨xb, hxb⟩ : ∃ xb, wr.heap.size = xb := ⟨_, rfl⟩
    rw [hxb] at s1
    have s2 := s1.box_arr 87 #[.slice none 0 0, .slice none 0 0, .slice none 0 0, .slice none 0 0] 4 (wasV (fun _ => none) (fun _ => 0) 0) rfl (fun j hj => by rcases (show j = 0 ∨ j = 1 ∨ j = 2 ∨ j = 3 by omega) with rfl | rfl | rfl | rfl <;> rfl)
    have s3 := s2.box_arr 88 #[.int .i64 0, .int .i64 0, .int .i64 0, .int .i64 0] 4 (ownV D 0) rfl (fun j hj => by rcases (show j = 0 ∨ j = 1 ∨ j = 2 ∨ j = 3 by omega) with rfl | rfl | rfl | rfl <;> rfl)
    have a1 : (wr.alloc (.cells (dcs kd id ro de tr sl ge fr ln no at' Bx xs.length cx) 48)).heap.size = xb + 1 := by rw [← hxb]; simp
    have a2 : ((wr.alloc (.cells (dcs kd id ro de tr sl ge fr ln no at' Bx xs.length cx) 48)).alloc (.cells #[.slice none 0 0, .slice none 0 0, .slice none 0 0, .slice none 0 0] 87)).heap.size = xb + 1 + 1 := by rw [← hxb]; simp
    rw [a2, a1] at s3
    obtain ⟨wb, hwb⟩ : ∃ wb, xb + 1 = wb := ⟨_, rfl⟩
    rw [hwb] at s3
    obtain ⟨ob, hob⟩ : ∃ ob, wb + 1 = ob := ⟨_, rfl⟩
    rw [hob] at s3
    have S3 := Lib.hid (show St w None _ (DvL a 5 sz bq D ++ (BlkR xb 48 (dcs kd id ro de tr sl ge fr ln no at' Bx xs.length cx) :: WasL D wb ob 0 (fun _ => none) (fun _ => 0))) by
      simp only [WasL, List.append_assoc, List.cons_append, List.nil_append, List.range_zero, List.map_nil] at s3 ⊢; exact s3)
    unfold dcs at S3
    clear hc v0 v1 v2 v3 v4 v5 v6 v7 v8 v9 v10 v11 s1 s2 s3 a1 a2 hQ sr hwid hwno hxl hxr hdd hat
    go_wp2_with fail
    clear e0 e1 e2 e3 e4 e5 e6 e7 e8 e9 e10 e11 d0 d1
    obtain ⟨RX, hRX⟩ : ∃ RX, BlkR xb 48 (#[.int .i64 kd, .int .i64 id, .int .i64 ro, .int .u64 de, .int .i64 tr, .int .i64 sl, .int .u64 ge, .int .i64 fr, .int .i64 ln, .int .i64 no, .int .i64 at', .slice Bx xs.length cx]) = RX := ⟨_, rfl⟩
    rw [hRX] at S3
    have HRX := Lib.hid hRX
    clear hRX hxb hwb hob
    have POK := Lib.hid HQ.out.I.c.pok
    go_loopw [16, 17, 18, 19] (fun x16 _ _ _ wx => ∃ (k : Nat) (B : Nat → Option Addr) (c : Nat → Nat), k ≤ 4 ∧ x16 = .int .i64 (k : Int) ∧ St w None wx (DvL a 5 sz bq D ++ (RX :: WasL D wb ob k B c))) (fun x16 _ _ _ _ => 4 - (intOf x16).toNat)
    case atStart => exact ⟨0, _, _, by omega, rfl, S3.out⟩
    case round =>
    clear S3
    obtain ⟨k, B, c, hk, rfl, sr⟩ := hrel
    by_cases hk4 : k < 4
    · obtain ⟨bg, bo, bl⟩ := HQ.out.bf k hk4
      have s1 := sr.box 37 #[.int .i64 (k : Int), .int .u64 1]
      obtain ⟨hb, hhb⟩ : ∃ hb, wr.heap.size = hb := ⟨_, rfl⟩
      rw [hhb] at s1
      have hz : po.SizeP 5 D.st (k : Int) 1 ((lenG k : Nat) : Int) 0 := Or.inr ⟨k, by omega, rfl, bo, bg, by rw [bl], rfl⟩
      have hr : po.ReadP 5 D.st (k : Int) 1 0 ((lenG k : Nat) : Int) (D.st k).bs 0 := Or.inr ⟨k, by omega, rfl, bo, bg, Or.inr ⟨⟨by omega, by omega, by omega, by rw [bl]; omega⟩, rfl, by
        rw [show (0 : Int).toNat = 0 from rfl, Int.toNat_natCast, List.drop_zero, List.take_of_length_le (by omega)]⟩⟩
      have ho : po.OwnerP 5 D.st (k : Int) 1 (D.st k).owner (D.st k).refs 0 := Or.inr ⟨k, by omega, rfl, bo, bg, rfl, rfl, rfl⟩
      have HR := Lib.hid hr
      have HO := Lib.hid ho
      have BL := Lib.hid bl
      obtain ⟨x0, x1⟩ := (mid_blk (C := []) (by rw [List.append_nil]; exact s1)).two
      have K1 := Lib.hid (po.size_o s1 1 rfl POK.out hz)
      clear sr s1 hz hr ho bl
      go_wp2_with fail
      refine K1.out.mono ?_
      rintro e w2 ⟨rfl, s2⟩
      have s2 : St w None w2 (DvL a 5 sz bq D ++ (RX :: WasL D wb ob k B c) ++ [BlkR hb 37 #[.int .i64 (k : Int), .int .u64 1]]) := s2
      obtain ⟨x0, x1⟩ := (mid_blk (C := []) (by rw [List.append_nil]; exact s2)).two
      have K2 := Lib.hid (po.read_o s2 1 rfl POK.out HR.out)
      rw [BL.out] at K2
      clear s2 K1 hhb
      go_wp2_with fail
      refine K2.out.mono ?_
      rintro e w3 ⟨Bn, cn, rfl, s3⟩
      have s3 : St w None w3 (DvL a 5 sz bq D ++ (RX :: WasL D wb ob k B c) ++ [BlkR hb 37 #[.int .i64 (k : Int), .int .u64 1]] ++ [LisR 5 1 (.slice Bn (lenG k) cn) (lenG k) (po.bys (D.st k).bs)]) := s3
      have z1 := s3.arr_cell 9 rfl hk4
      have z2 := s3.arr_frozen 9 rfl k
      have s4 := s3.arr_set 9 rfl hk4 (.slice Bn (lenG k) cn)
      have s4 : St w None (w3.setCell ⟨wb, k, none⟩ (.slice Bn (lenG k) cn)) (DvL a 5 sz bq D ++ (RX :: [ArrR wb 87 4 (fun j => if j = k then .slice Bn (lenG k) cn else wasV B c k j), ArrR ob 88 4 (ownV D k)] ++ (List.range k).map (wasR D B c)) ++ [BlkR hb 37 #[.int .i64 (k : Int), .int .u64 1]] ++ [LisR 5 1 (.slice Bn (lenG k) cn) (lenG k) (po.bys (D.st k).bs)]) := s4
      obtain ⟨x0, x1⟩ := (mid_blk s4).two
      have K3 := Lib.hid (po.owner_o s4 1 rfl POK.out HO.out)
      clear s3 s4 K2
      go_wp2_with fail
      refine K3.out.mono ?_
      rintro e w4 ⟨rfl, s5⟩
      have s5 : St w None w4 (DvL a 5 sz bq D ++ (RX :: [ArrR wb 87 4 (fun j => if j = k then .slice Bn (lenG k) cn else wasV B c k j), ArrR ob 88 4 (ownV D k)] ++ (List.range k).map (wasR D B c)) ++ [BlkR hb 37 #[.int .i64 (k : Int), .int .u64 1]] ++ [LisR 5 1 (.slice Bn (lenG k) cn) (lenG k) (po.bys (D.st k).bs)]) := s5
      have z1 := s5.arr_cell 10 rfl hk4
      have z2 := s5.arr_frozen 10 rfl k
      have s6 := s5.arr_set 10 rfl hk4 (.int .i64 (D.st k).owner)
      have s6 : St w None (w4.setCell ⟨ob, k, none⟩ (.int .i64 (D.st k).owner)) ((DvL a 5 sz bq D ++ [RX, ArrR wb 87 4 (fun j => if j = k then .slice Bn (lenG k) cn else wasV B c k j), ArrR ob 88 4 (fun j => if j = k then .int .i64 (D.st k).owner else ownV D k j)] ++ (List.range k).map (wasR D B c)) ++ [BlkR hb 37 #[.int .i64 (k : Int), .int .u64 1]] ++ [LisR 5 1 (.slice Bn (lenG k) cn) (lenG k) (po.bys (D.st k).bs)]) := s6
      have s7 := drop_mid s6
      have s8 := s7.fam_snoc (F' := wasR D (fun j => if j = k then Bn else B j) (fun j => if j = k then cn else c j)) (LisR.ok _ _ _ _ _) (fun j hj => by unfold wasR; dsimp only; rw [if_neg (by omega), if_neg (by omega)]) (fun S h => by unfold wasR; dsimp only; rw [if_pos rfl, if_pos rfl]; exact h)
      have s9 := (s8.arr_like 9 rfl (V' := wasV (fun j => if j = k then Bn else B j) (fun j => if j = k then cn else c j) (k + 1)) (fun j hj => by
        show wasV _ _ (k + 1) j = if j = k then _ else wasV B c k j
        unfold wasV
        by_cases e : j = k
        · subst e; simp
        · by_cases e2 : j < k
          · rw [if_pos (by omega)]; dsimp only; rw [if_neg e, if_neg e, if_neg e, if_pos e2]
          · rw [if_neg (by omega), if_neg e, if_neg e2])).arr_like 10 rfl (V' := ownV D (k + 1)) (fun j hj => by
        show ownV D (k + 1) j = if j = k then _ else ownV D k j
        unfold ownV
        by_cases e : j = k
        · subst e; simp
        · by_cases e2 : j < k
          · rw [if_pos (by omega), if_neg e, if_pos e2]
          · rw [if_neg (by omega), if_neg e, if_neg e2])
      have S9 := Lib.hid (show St w None (w4.setCell ⟨ob, k, none⟩ (.int .i64 (D.st k).owner)) (DvL a 5 sz bq D ++ (RX :: WasL D wb ob (k + 1) (fun j => if j = k then Bn else B j) (fun j => if j = k then cn else c j))) from s9)
      clear s5 s6 s7 s8 s9 K3 x0 x1
      go_wp2_with fail
      go_roundw
      case rel => exact ⟨k + 1, _, _, by omega, by go_num, S9.out⟩
      case measure => simp [intOf]; omega
    obtain rfl : k = 4 := by omega
    obtain ⟨T, hT⟩ : ∃ T, WasL D wb ob 4 B c = T := ⟨_, rfl⟩
    have WR := Lib.hid (show ∀ (V : World) (bq : Nat → Nat) (E : Dv) (R : Res) (Y : List Res), St w None V (DvL a 5 sz bq E ++ ((R :: T) ++ Y)) → ∀ k, k < 4 → V.cell? ⟨wb, k, none⟩ = some (.slice (B k) (lenG k) (c k)) ∧ V.cell? ⟨ob, k, none⟩ = some (.int .i64 (D.st k).owner) ∧ Lis V 5 1 (.slice (B k) (lenG k) (c k)) (lenG k) (po.bys (D.st k).bs) from fun V bq E R Y s k hk => by
      rw [← hT] at s; exact was_reads s hk)
    rw [hT, ← HRX.out] at sr
    have y0 : wr.cell? ⟨xb, 0, none⟩ = some (.int .i64 kd) := (dv_blk sr 0 rfl).cell 0
    have SX := Lib.hid sr
    clear hT hk4 hk POK sr
    go_upto_block 4 with (fail)
    go_cut [10, 11] (fun x10 x11 wx => ∃ (op' now' dv : Int) (D' : Dv) (bq' : Nat → Nat), x11 = .int .i64 op' ∧ x10 = .int .u64 now' ∧ QtI sz (i + 1) ct op' now' D' ∧ QtS kd D D' ∧ St w None wx (DvL a 5 sz bq' D' ++ (BlkR xb 48 (#[.int .i64 kd, .int .i64 id, .int .i64 ro, .int .u64 dv, .int .i64 tr, .int .i64 sl, .int .u64 ge, .int .i64 fr, .int .i64 ln, .int .i64 no, .int .i64 at', .slice Bx xs.length cx]) :: T)))
    case first =>
      have sx := SX.out
      by_cases h0 : kd = 0
      · subst h0
        as_aux_lemma =>
          obtain ⟨m, hm⟩ : ∃ m, de % 300 = m := ⟨_, rfl⟩
          have hde := HDD.out
          have m0 : 0 ≤ m := by omega
          have m1 : m < 300 := by omega
          have cm : Int.tmod de 300 = m := by rw [← hm]; exact Int.tmod_eq_emod_of_nonneg (by omega)
          have cw : IntKind.i64.wrap m = m := IntWalk.i64_in _ ⟨by omega, by omega⟩
          have cw2 : IntKind.u64.wrap m = m := IntWalk.u64_in _ ⟨by omega, by omega⟩
          have nw := HQ.out.n0
          have nw1 := HQ.out.n1
          have KL := Lib.hid (later_c now m wr nw (by omega) ⟨by omega, by omega⟩)
          obtain ⟨u, hu⟩ : ∃ u, ltr now m = u := ⟨_, rfl⟩
          have hu2 := ltr_in (now := now) m0
          rw [hu] at KL hu2
          have xc := dv_blk sx 0 rfl
          have y3 := xc.cell 3
          have y3 : wr.cell? ⟨xb, 3, none⟩ = some (.int .u64 de) := y3
          have yf := xc.frozen 3
          have s2 := sx.set_ 8 rfl 3 (.int .u64 u)
          have s2 : St w None (wr.setCell ⟨xb, 3, none⟩ (.int .u64 u)) (DvL a 5 sz bq D ++ (BlkR xb 48 (#[.int .i64 0, .int .i64 id, .int .i64 ro, .int .u64 u, .int .i64 tr, .int .i64 sl, .int .u64 ge, .int .i64 fr, .int .i64 ln, .int .i64 no, .int .i64 at', .slice Bx xs.length cx]) :: T)) := s2
          have b2 := dv_blk s2 0 rfl
          have c1 := b2.cell 1
          have c2 := b2.cell 2
          have c3 := b2.cell 3
          have c4 := b2.cell 4
          have c5 := b2.cell 5
          have c6 := b2.cell 6
          have c7 := b2.cell 7
          have c8 := b2.cell 8
          have HU := Lib.hid hu2
          have K := Lib.hid (show Calls Tryz.prog 18 #[ptrV a.d, .agg #[.int .i64 id, .int .i64 ro, .int .u64 u, .int .i64 tr, .int .i64 sl, .int .u64 ge, .int .i64 fr, .int .i64 ln]] _ _ from subW s2 HQ.out.I ⟨id, ro, u, tr, sl, ge, fr, ln, false, false, false, false⟩ ⟨rfl, rfl, rfl, rfl⟩ WF.out.1 (by show 0 ≤ u; omega) (by show u ≤ _; omega) (by have := HQ.out.nx; omega))
          have ob0 : 0 ≤ op ∧ op ≤ 200 := by have h1 := HQ.out.hop; have h2 := HQ.out.I.cnu; have h3 := HQ.out.nx; omega
          clear hm hde m1 xc sx s2 b2 hu nw nw1
          go_wp2_with fail
          refine KL.out.mono ?_
          rintro e w5 ⟨rfl, rfl⟩
          clear KL m0 cm cw cw2
          go_wp2_with fail
          refine K.out.mono ?_
          rintro e w6 ⟨f, D', bq', rfl, hh, s3⟩
          have S2 := Lib.hid s3
          have hq := HQ.out.sub (r := ⟨id, ro, u, tr, sl, ge, fr, ln, false, false, false, false⟩) (kd := 0) h120 (by show u ≤ _; have := HU.out; omega) hh
          clear K s3 hh c1 c2 c3 c4 c5 c6 c7 c8 y3 yf
          rcases hq with ⟨hf, hq⟩ | ⟨rfl, hq⟩
          · have z : (f == 0) = false := beq_eq_false_iff_ne.2 hf
            have HQ2 := Lib.hid hq
            clear hq hf hu2
            go_wp2_with fail
            go_meet
            exact ⟨op, now, u, D', bq', rfl, rfl, HQ2.out.1, HQ2.out.2, S2.out⟩
          · have HQ2 := Lib.hid hq
            clear hq hu2
            go_wp2_with fail
            go_meet
            exact ⟨op + 1, now, u, D', bq', by go_num, rfl, HQ2.out.1, HQ2.out.2, S2.out⟩
      have z0 : (kd == 0) = false := beq_eq_false_iff_ne.2 h0
      by_cases h1 : kd = 1
      · subst h1
        as_aux_lemma =>
          have K := Lib.hid (startW sx HQ.out.I)
          clear sx
          go_wp2_with fail
          refine K.out.mono ?_
          rintro e w5 ⟨B5, d5, ids, D', rfl, -, -, -, hI, eb, en, -, -, es, s3⟩
          have S2 := Lib.hid (show St w None w5 (DvL a 5 sz bq D' ++ (BlkR xb 48 (#[.int .i64 1, .int .i64 id, .int .i64 ro, .int .u64 de, .int .i64 tr, .int .i64 sl, .int .u64 ge, .int .i64 fr, .int .i64 ln, .int .i64 no, .int .i64 at', .slice Bx xs.length cx]) :: T)) from (dv_back s3).drop 0 (by simp))
          have HQ2 := Lib.hid (HQ.out.step (kd := 1) hI en (by rw [eb]; exact BkS.refl _) (by rw [es]; exact KeepS.refl _ _))
          clear s3 hI eb en es
          clear K
          go_wp2_with fail
          go_meet
          exact ⟨op, now, de, _, bq, rfl, rfl, HQ2.out.1, HQ2.out.2, S2.out⟩
      have z1 : (kd == 1) = false := beq_eq_false_iff_ne.2 h1
      by_cases h2 : kd = 2
      · subst h2
        as_aux_lemma =>
          have K := Lib.hid (takeW sx HQ.out.I)
          clear sx
          go_wp2_with fail
          refine K.out.mono ?_
          rintro e w5 ⟨D', no2, f, d, rfl, hh, s3⟩
          obtain ⟨d1, d2, d3, d4, d5, d6, d7, d8, d9⟩ := d
          have S2 := Lib.hid s3
          have HQ2 := Lib.hid (show QtI sz (i + 1) ct op now D' ∧ QtS 2 D D' by
            rcases hh with ⟨-, -, -, -, rfl⟩ | ⟨-, -, -, -, k, st', -, -, h6, h7, rfl, h9⟩
            · exact HQ.out.step HQ.out.I rfl (BkS.refl _) (KeepS.refl _ _)
            · exact HQ.out.take h6 h7 h9)
          clear K s3 hh
          go_wp2_with fail
          go_meet
          exact ⟨op, now, de, D', bq, rfl, rfl, HQ2.out.1, HQ2.out.2, S2.out⟩
      have z2 : (kd == 2) = false := beq_eq_false_iff_ne.2 h2
      by_cases h3 : kd = 3
      · subst h3
        as_aux_lemma =>
          have xc := dv_blk sx 0 rfl
          have y9 := xc.cell 9
          have y10 := xc.cell 10
          have y11 := xc.cell 11
          clear xc
          have K := Lib.hid (wrW (no := no) (at' := at') (xs := xs) (cp := cx) sx HQ.out.I HXR.out.1 (HXR.out.2 _ sx.below) WF.out.2)
          clear sx
          go_wp2_with fail
          refine K.out.mono ?_
          rintro e w5 ⟨cw, st', rfl, -, hI, h1, h2, s3⟩
          have S2 := Lib.hid s3
          have HQ2 := Lib.hid (HQ.out.write hI h1 h2)
          clear s3 hI h1 h2 y9 y10 y11
          clear K
          go_wp2_with fail
          go_meet
          exact ⟨op, now, de, _, bq, rfl, rfl, HQ2.out.1, HQ2.out.2, S2.out⟩
      have z3 : (kd == 3) = false := beq_eq_false_iff_ne.2 h3
      by_cases h4 : kd = 4
      · subst h4
        as_aux_lemma =>
          have xc := dv_blk sx 0 rfl
          have y9 := xc.cell 9
          have y10 := xc.cell 10
          have y11 := xc.cell 11
          clear xc
          have K := Lib.hid (finW (no := no) (stt := at') sx HQ.out.I false WF.out.2)
          clear sx
          go_wp2_with fail
          refine K.out.mono ?_
          rintro e w5 ⟨f, g', k, rfl, -, -, hI, s3⟩
          have S2 := Lib.hid s3
          have HQ2 := Lib.hid (HQ.out.fin (kd := 4) hI)
          clear s3 hI y9 y10 y11
          clear K
          go_wp2_with fail
          go_meet
          exact ⟨op, now, de, _, bq, rfl, rfl, HQ2.out.1, HQ2.out.2, S2.out⟩
      have z4 : (kd == 4) = false := beq_eq_false_iff_ne.2 h4
      by_cases h5 : kd = 5
      · subst h5
        as_aux_lemma =>
          have xc := dv_blk sx 0 rfl
          have y9 := xc.cell 9
          have y10 := xc.cell 10
          have y11 := xc.cell 11
          clear xc
          have K := Lib.hid (finW (no := no) (stt := at') sx HQ.out.I true WF.out.2)
          clear sx
          go_wp2_with fail
          refine K.out.mono ?_
          rintro e w5 ⟨f, g', k, rfl, -, -, hI, s3⟩
          have S2 := Lib.hid s3
          have HQ2 := Lib.hid (HQ.out.fin (kd := 5) hI)
          clear s3 hI y9 y10 y11
          clear K
          go_wp2_with fail
          go_meet
          exact ⟨op, now, de, _, bq, rfl, rfl, HQ2.out.1, HQ2.out.2, S2.out⟩
      have z5 : (kd == 5) = false := beq_eq_false_iff_ne.2 h5
      by_cases h6 : kd = 6
      · subst h6
        as_aux_lemma =>
          have K := Lib.hid (reapW sx HQ.out.I)
          clear sx
          go_wp2_with fail
          refine K.out.mono ?_
          rintro e w5 ⟨d, f, g', k, q', st', rfl, -, -, hI, hK, s3⟩
          have S2 := Lib.hid s3
          have HQ2 := Lib.hid (HQ.out.reap (kd := 6) hI hK)
          generalize (if f = 0 then d.req else 0) = rq
          clear s3 hI hK
          clear K
          go_wp2_with fail
          go_meet
          exact ⟨op, now, de, _, bq, rfl, rfl, HQ2.out.1, HQ2.out.2, S2.out⟩
      have z6 : (kd == 6) = false := beq_eq_false_iff_ne.2 h6
      by_cases h7 : kd = 7
      · subst h7
        as_aux_lemma =>
          have xc := dv_blk sx 0 rfl
          have y9 := xc.cell 9
          have y10 := xc.cell 10
          have y11 := xc.cell 11
          clear xc
          have K := Lib.hid (canW (id := no) sx HQ.out.I WF.out.2)
          clear sx
          go_wp2_with fail
          refine K.out.mono ?_
          rintro e w5 ⟨rfl, k, q', st', -, hI, hK, s3⟩
          have S2 := Lib.hid s3
          have HQ2 := Lib.hid (HQ.out.can (kd := 7) hI hK)
          clear s3 hI hK y9 y10 y11
          clear K
          go_wp2_with fail
          go_meet
          exact ⟨op, now, de, _, bq, rfl, rfl, HQ2.out.1, HQ2.out.2, S2.out⟩
      have z7 : (kd == 7) = false := beq_eq_false_iff_ne.2 h7
      as_aux_lemma =>
        have nw := HQ.out.n0
        have nw1 := HQ.out.n1
        have KL := Lib.hid (later_c now at' wr nw (by omega) HAT.out)
        obtain ⟨u, hu⟩ : ∃ u, ltr now at' = u := ⟨_, rfl⟩
        have hu2 := ltr_any now at'
        rw [hu] at KL hu2
        have HU := Lib.hid hu2
        have xc := dv_blk sx 0 rfl
        have y9 := xc.cell 9
        have y10 := xc.cell 10
        have y11 := xc.cell 11
        clear xc
        have K := Lib.hid (goW (u := u) sx HQ.out.I (by omega))
        have ob0 : 0 ≤ op ∧ op ≤ 200 := by have h1 := HQ.out.hop; have h2 := HQ.out.I.cnu; have h3 := HQ.out.nx; omega
        clear sx hu nw nw1 hu2
        go_wp2_with fail
        refine KL.out.mono ?_
        rintro e w5 ⟨rfl, rfl⟩
        clear KL
        go_wp2_with fail
        refine K.out.mono ?_
        rintro e w6 ⟨B5, m5, d5, o, D', rfl, -, hol, hm5, hI, hG, hl, -, s3⟩
        obtain ⟨-, hq⟩ := HQ.out.go (kd := kd) HU.out.1 (by have := HU.out.2; omega) h120 hI hG hl
        rw [hol] at hq
        have HQ2 := Lib.hid hq
        have S2 := Lib.hid (show St w None w6 (DvL a 5 sz bq D' ++ (BlkR xb 48 (#[.int .i64 kd, .int .i64 id, .int .i64 ro, .int .u64 de, .int .i64 tr, .int .i64 sl, .int .u64 ge, .int .i64 fr, .int .i64 ln, .int .i64 no, .int .i64 at', .slice Bx xs.length cx]) :: T)) from (dv_back s3).drop 0 (by simp))
        clear K s3 hq hI hG hl hol y9 y10 y11
        go_wp2_with fail
        go_meet
        exact ⟨op - (m5 : Int), u, de, D', bq, by go_num, rfl, HQ2.out.1, HQ2.out.2, S2.out⟩
    case rest =>
    clear SX
    obtain ⟨op', now', dv, D', bq', rfl, rfl, hQ', hS', s4⟩ := hcut
    have HQ' := Lib.hid hQ'
    have HS' := Lib.hid hS'
    have S4 := Lib.hid s4
    clear hQ' hS' s4 y0
    go_wp2_with fail
    go_loopw [22, 23, 24, 25] (fun x22 _ _ _ wx => ∃ k : Nat, k ≤ 4 ∧ x22 = .int .i64 (k : Int) ∧ St w None wx (DvL a 5 sz bq' D' ++ (BlkR xb 48 (#[.int .i64 kd, .int .i64 id, .int .i64 ro, .int .u64 dv, .int .i64 tr, .int .i64 sl, .int .u64 ge, .int .i64 fr, .int .i64 ln, .int .i64 no, .int .i64 at', .slice Bx xs.length cx]) :: T))) (fun x22 _ _ _ _ => 4 - (intOf x22).toNat)
    case atStart => exact ⟨0, by omega, rfl, S4.out⟩
    case round =>
    clear S4
    obtain ⟨k, hk, rfl, sr⟩ := hrel
    by_cases hk4 : k < 4
    · obtain ⟨bg, bo, bl⟩ := HQ'.out.bf k hk4
      have s1 := sr.box 37 #[.int .i64 (k : Int), .int .u64 1]
      obtain ⟨hb, hhb⟩ : ∃ hb, wr.heap.size = hb := ⟨_, rfl⟩
      rw [hhb] at s1
      have hr : po.ReadP 5 D'.st (k : Int) 1 0 ((lenG k : Nat) : Int) (D'.st k).bs 0 := Or.inr ⟨k, by omega, rfl, bo, bg, Or.inr ⟨⟨by omega, by omega, by omega, by rw [bl]; omega⟩, rfl, by
        rw [show (0 : Int).toNat = 0 from rfl, Int.toNat_natCast, List.drop_zero, List.take_of_length_le (by omega)]⟩⟩
      have HR := Lib.hid hr
      have BL := Lib.hid bl
      have CE := Lib.hid (show ∀ V (Y : List Res), St w None V (DvL a 5 sz bq' D' ++ (BlkR xb 48 (#[.int .i64 kd, .int .i64 id, .int .i64 ro, .int .u64 dv, .int .i64 tr, .int .i64 sl, .int .u64 ge, .int .i64 fr, .int .i64 ln, .int .i64 no, .int .i64 at', .slice Bx xs.length cx]) :: T) ++ [BlkR hb 37 #[.int .i64 (k : Int), .int .u64 1]] ++ Y) → V.cell? ⟨hb, 0, none⟩ = some (.int .i64 (k : Int)) ∧ V.cell? ⟨hb, 1, none⟩ = some (.int .u64 1) ∧ V.cell? ⟨wb, k, none⟩ = some (.slice (B k) (lenG k) (c k)) from fun V Y s => by
        have h1 := (mid_blk s).two
        rw [List.append_assoc, List.append_assoc] at s
        exact ⟨h1.1, h1.2, (WR.out _ _ _ _ _ s k hk4).1⟩)
      have qq := CE.out _ [] (by rw [List.append_nil]; exact s1)
      obtain ⟨x0, x1, x2⟩ := qq
      have qq := And.intro x0 (And.intro x1 x2)
      have K2 := Lib.hid (po.read_o s1.drew 1 rfl HQ'.out.I.c.pok HR.out)
      rw [BL.out] at K2
      clear sr s1 hr bl
      go_wp2_with fail
      go_region_held3 (fun w' => w'.cell? ⟨hb, 0, none⟩ = some (.int .i64 (k : Int)) ∧ w'.cell? ⟨hb, 1, none⟩ = some (.int .u64 1) ∧ w'.cell? ⟨wb, k, none⟩ = some (.slice (B k) (lenG k) (c k))) (go_keep)
        (first
          | (go_at_call 39; refine K2.out.mono ?_; rintro e w3 ⟨Bn, cn, rfl, s3⟩; have S3 := Lib.hid (show St w None w3 (DvL a 5 sz bq' D' ++ (BlkR xb 48 (#[.int .i64 kd, .int .i64 id, .int .i64 ro, .int .u64 dv, .int .i64 tr, .int .i64 sl, .int .u64 ge, .int .i64 fr, .int .i64 ln, .int .i64 no, .int .i64 at', .slice Bx xs.length cx]) :: T) ++ [BlkR hb 37 #[.int .i64 (k : Int), .int .u64 1]] ++ [LisR 5 1 (.slice Bn (lenG k) cn) (lenG k) (po.bys (D'.st k).bs)]) from s3); have q3 := CE.out _ _ S3.out; clear s3))
      clear hhb qq x0 x1 x2
      have s3 := S3.out
      have s3' := s3
      rw [List.append_assoc, List.append_assoc] at s3'
      obtain ⟨x2, x3, lw⟩ := WR.out _ _ _ _ _ s3' k hk4
      have y0 := (dv_blk s3' 0 rfl).cell 0
      have y0 : w3.cell? ⟨xb, 0, none⟩ = some (.int .i64 kd) := y0
      have ln : Lis w3 5 1 (.slice Bn (lenG k) cn) (lenG k) (po.bys (D'.st k).bs) := s3.lis (DvL a 5 sz bq' D' ++ (BlkR xb 48 (#[.int .i64 kd, .int .i64 id, .int .i64 ro, .int .u64 dv, .int .i64 tr, .int .i64 sl, .int .u64 ge, .int .i64 fr, .int .i64 ln, .int .i64 no, .int .i64 at', .slice Bx xs.length cx]) :: T) ++ [BlkR hb 37 #[.int .i64 (k : Int), .int .u64 1]]).length (by rw [List.getElem?_append_right (Nat.le_refl _), Nat.sub_self]; rfl)
      obtain ⟨x, hx⟩ : ∃ x, x = decide (∀ j, j < lenG k → (D'.st k).bs.getD j 0 = (D.st k).bs.getD j 0) := ⟨_, rfl⟩
      have K3 := Lib.hid (po.same_eq (cap := cn) (cap2 := c k) (po.rd_bys ln) (po.rd_bys lw) (by rcases (show k = 0 ∨ k = 1 ∨ k = 2 ∨ k = 3 by omega) with rfl | rfl | rfl | rfl <;> decide) x hx)
      have HX := Lib.hid (show x = true ∨ (x = false ∧ kd = 3 ∧ (D.st k).owner = 3) by
        rcases HS'.out k hk4 with e | ⟨e1, e2⟩
        · left; rw [hx, e]; simp
        · cases x with
          | true => exact Or.inl rfl
          | false => exact Or.inr ⟨rfl, e1, e2⟩)
      have S5 := Lib.hid s3
      clear s3 s3' ln lw S3 K2 hx q3
      go_wp2_with fail
      refine K3.out.mono ?_
      rintro e w4 ⟨rfl, hb4⟩
      have s6 := S5.out.stay hb4
      have s6' := s6
      rw [List.append_assoc, List.append_assoc] at s6'
      obtain ⟨-, x3, -⟩ := WR.out _ _ _ _ _ s6' k hk4
      have y0 : w4.cell? ⟨xb, 0, none⟩ = some (.int .i64 kd) := (dv_blk s6' 0 rfl).cell 0
      have S7 := Lib.hid (show St w None w4 (DvL a 5 sz bq' D' ++ (BlkR xb 48 (#[.int .i64 kd, .int .i64 id, .int .i64 ro, .int .u64 dv, .int .i64 tr, .int .i64 sl, .int .u64 ge, .int .i64 fr, .int .i64 ln, .int .i64 no, .int .i64 at', .slice Bx xs.length cx]) :: T)) from st_pre (st_pre s6))
      clear s6 s6' hb4 S5 K3
      rcases HX.out with rfl | ⟨rfl, rfl, ho3⟩
      · go_wp2_with fail
        go_roundw
        case rel => (repeat apply Exists.intro); exact ⟨⟨k + 1, by omega, by go_num, S7.out⟩, rfl⟩
        case measure => simp [intOf]; omega
      · rw [ho3] at x3
        clear ho3
        go_wp2_with fail
        go_roundw
        case rel => (repeat apply Exists.intro); exact ⟨⟨k + 1, by omega, by go_num, S7.out⟩, rfl⟩
        case measure => simp [intOf]; omega
    obtain rfl : k = 4 := by omega
    have S8 := Lib.hid (show St w None wr (DvL a 5 sz bq' D' ++ []) from by rw [List.append_nil]; exact st_pre sr)
    clear sr hk4 hk WR HS'
    go_wp2_with fail
    go_roundw
    case rel => first | exact ⟨i + 1, op', now', D', bq', by omega, by omega, rfl, rfl, by go_num, HQ'.out, S8.out⟩ | ((repeat apply Exists.intro); exact ⟨⟨i + 1, op', now', D', bq', by omega, by omega, rfl, rfl, by go_num, HQ'.out, S8.out⟩, rfl⟩) --, D', bq', by omega, by omega, rfl, rfl, by go_num, HQ'.out, S8.out⟩
    case measure => simp [intOf]; omega
  · have n0 := hQ.n0
    have n1 := hQ.n1
    have cw : IntKind.u64.wrap (now + 1000) = now + 1000 := IntWalk.u64_in _ ⟨by omega, by omega⟩
    have KG := Lib.hid (goW (u := now + 1000) sr hQ.I (by omega))
    have HI := Lib.hid hi120
    clear sr hQ n0 n1
    by_cases hlt : i < n
    · have d0 : decide ((i : Int) < (n : Int)) = true := decide_eq_true (by omega)
      have d0' : decide (i < n) = true := decide_eq_true hlt
      have d1 : decide ((i : Int) < 120) = false := decide_eq_false (by omega)
      have d1' : decide (i < 120) = false := decide_eq_false (by omega)
      clear hgo hlt hin hi120
      as_aux_lemma =>
        go_wp2_with fail
        refine KG.out.mono ?_
        rintro e w5 ⟨B7, m7, d7, o, D', rfl, -, hol, -, hI', hG, hl, -, s5⟩
        obtain ⟨hg, hop, how, hq0⟩ := HQ.out.last HI.out CT.out.1 hI' hG hl
        rw [hg]
        obtain rfl : op = (m7 : Int) := by rw [← hol]; exact hop.symm
        have HOW := Lib.hid how
        have HII := Lib.hid hI'
        have HQ0 := Lib.hid hq0
        have S5 := Lib.hid s5
        clear KG s5 hol hI' hG hl hg hop how hq0 cw
        go_wp2_with fail
        go_loopw [28, 29, 30, 31] (fun x28 _ _ _ wx => ∃ k : Nat, k ≤ 4 ∧ x28 = .int .i64 (k : Int) ∧ St w None wx (DvL a 5 sz bq D' ++ ([] ++ [LisR 98 3 (.slice B7 m7 d7) m7 (fvs o)]))) (fun x28 _ _ _ _ => 4 - (intOf x28).toNat)
        case atStart => exact ⟨0, by omega, rfl, S5.out⟩
        case round =>
        clear S5
        obtain ⟨k, hk, rfl, sr⟩ := hrel
        by_cases hk4 : k < 4
        · obtain ⟨o1, o2⟩ := HOW.out k hk4
          have KO := Lib.hid (po.owner_o sr 1 rfl HII.out.c.pok (x := (k : Int)) (g := 1) (o := 1) (r := (D'.st k).refs) (c := 0) (Or.inr ⟨k, by omega, rfl, by omega, o2, o1.symm, rfl, rfl⟩))
          clear sr o1 o2
          go_wp2_with fail
          refine KO.out.mono ?_
          rintro e w6 ⟨rfl, s6⟩
          have S6 := Lib.hid (show St w None w6 (DvL a 5 sz bq D' ++ ([] ++ [LisR 98 3 (.slice B7 m7 d7) m7 (fvs o)])) from s6)
          clear s6 KO
          go_wp2_with fail
          go_roundw
          case rel => exact ⟨k + 1, by omega, by go_num, S6.out⟩
          case measure => simp [intOf]; omega
        obtain rfl : k = 4 := by omega
        have KC := Lib.hid (countsD_o sr HII.out.c.qok HII.out.c.gok)
        rw [HQ0.out] at KC
        clear sr hk4 hk
        go_wp2_with fail
        refine KC.out.mono ?_
        rintro e w7 ⟨rfl, s7⟩
        have DN := Lib.hid (s7.take 0).below
        clear s7 KC
        go_wp2_with fail
        go_ret
        exact ⟨rfl, DN.out⟩
    · have d0 : decide ((i : Int) < (n : Int)) = false := decide_eq_false (by omega)
      have d0' : decide (i < n) = false := decide_eq_false (by omega)
      clear hgo hlt hin hi120
      as_aux_lemma =>
        go_wp2_with fail
        refine KG.out.mono ?_
        rintro e w5 ⟨B7, m7, d7, o, D', rfl, -, hol, -, hI', hG, hl, -, s5⟩
        obtain ⟨hg, hop, how, hq0⟩ := HQ.out.last HI.out CT.out.1 hI' hG hl
        rw [hg]
        obtain rfl : op = (m7 : Int) := by rw [← hol]; exact hop.symm
        have HOW := Lib.hid how
        have HII := Lib.hid hI'
        have HQ0 := Lib.hid hq0
        have S5 := Lib.hid s5
        clear KG s5 hol hI' hG hl hg hop how hq0 cw
        go_wp2_with fail
        go_loopw [28, 29, 30, 31] (fun x28 _ _ _ wx => ∃ k : Nat, k ≤ 4 ∧ x28 = .int .i64 (k : Int) ∧ St w None wx (DvL a 5 sz bq D' ++ ([] ++ [LisR 98 3 (.slice B7 m7 d7) m7 (fvs o)]))) (fun x28 _ _ _ _ => 4 - (intOf x28).toNat)
        case atStart => exact ⟨0, by omega, rfl, S5.out⟩
        case round =>
        clear S5
        obtain ⟨k, hk, rfl, sr⟩ := hrel
        by_cases hk4 : k < 4
        · obtain ⟨o1, o2⟩ := HOW.out k hk4
          have KO := Lib.hid (po.owner_o sr 1 rfl HII.out.c.pok (x := (k : Int)) (g := 1) (o := 1) (r := (D'.st k).refs) (c := 0) (Or.inr ⟨k, by omega, rfl, by omega, o2, o1.symm, rfl, rfl⟩))
          clear sr o1 o2
          go_wp2_with fail
          refine KO.out.mono ?_
          rintro e w6 ⟨rfl, s6⟩
          have S6 := Lib.hid (show St w None w6 (DvL a 5 sz bq D' ++ ([] ++ [LisR 98 3 (.slice B7 m7 d7) m7 (fvs o)])) from s6)
          clear s6 KO
          go_wp2_with fail
          go_roundw
          case rel => exact ⟨k + 1, by omega, by go_num, S6.out⟩
          case measure => simp [intOf]; omega
        obtain rfl : k = 4 := by omega
        have KC := Lib.hid (countsD_o sr HII.out.c.qok HII.out.c.gok)
        rw [HQ0.out] at KC
        clear sr hk4 hk
        go_wp2_with fail
        refine KC.out.mono ?_
        rintro e w7 ⟨rfl, s7⟩
        have DN := Lib.hid (s7.take 0).below
        clear s7 KC
        go_wp2_with fail
        go_ret
        exact ⟨rfl, DN.out⟩

set_option maxRecDepth 100000 in
theorem lifted (os : Os) (started : os.Started) (H : Type) (enc : TypeId × Value → H) :
    ReturnsInHanded {} Tryz.checked os 4 .any (Rows.ioqQuietSpec.pre6 enc Tryz.prog Tryz.f4 Rows.ioqQuietRow.domain false) (Rows.ioqQuietSpec.post enc Tryz.prog Tryz.f4 false true false false) := by
  refine law_lifted (C := Tryz.checked) (tb := 4) own started (by kernel_rfl) Tryz.func4
    (ChangeSpec.witness6 (enc := enc) (C := Tryz.checked) false ⟨#[], #[.int .u8 0, .int .u8 0, .slice none 0 0], []⟩ 8 (by kernel_rfl) (by kernel_rfl) (by kernel_rfl) (by kernel_rfl)) laid (by kernel_rfl) (by kernel_rfl) Tryz.underlying4 rfl ?_
  intro W base args ds ps hval0 hA0 hlt
  have hval : ∀ (j : Nat) t v, Tryz.f4.params[j]? = some t → args[j]? = some v → Value.okWide Tryz.prog W .any base t v := hval0
  have hA : DataW.TrodAll enc Tryz.prog W 0 (fun _ => true) true Tryz.f4.params.toList args.toList ds ps := hA0
  clear hA0 hval0
  rw [Tryz.params4] at hA hval
  obtain ⟨v0, vs0, d0, ds0, p0, q0, hargs, rfl, rfl, h0, r0⟩ := trodAll_cons hA
  obtain ⟨v1, vs1, d1, ds1, p1, q1, rfl, rfl, rfl, h1, r1⟩ := trodAll_cons r0
  obtain ⟨v2, vs2, d2, ds2, p2, q2, rfl, rfl, rfl, h2, r2⟩ := trodAll_cons r1
  obtain ⟨rfl, rfl, rfl⟩ := trodAll_nil r2
  obtain rfl : args = #[v0, v1, v2] := by cases args; simp_all
  obtain ⟨a0, rfl, rfl, rfl, w0⟩ := open_int Tryz.underlying5 (hval 0 5 v0 rfl rfl) h0
  obtain ⟨a1, rfl, rfl, rfl, w1⟩ := open_int Tryz.underlying5 (hval 1 5 v1 rfl rfl) h1
  obtain ⟨A2, n2, cap2, V2, rfl, le2, mx2, rd2, lf2⟩ := open_slice_spots (m := 12) (d := 20) (l := [(0, 3), (1, 3), (2, 3), (3, 22), (4, 3), (5, 3), (6, 22), (7, 3), (8, 3), (9, 3), (10, 3), (11, 46)]) Tryz.underlying23 (by kernel_rfl) (by decide) (by kernel_rfl) (hval 2 23 v2 rfl rfl) h2
  have f2_0 := fun j hj => leaf_int Tryz.underlying3 (lf2 0 3 (by simp) j hj)
  have f2_1 := fun j hj => leaf_int Tryz.underlying3 (lf2 1 3 (by simp) j hj)
  have f2_2 := fun j hj => leaf_int Tryz.underlying3 (lf2 2 3 (by simp) j hj)
  have f2_3 := fun j hj => leaf_int Tryz.underlying22 (lf2 3 22 (by simp) j hj)
  have f2_4 := fun j hj => leaf_int Tryz.underlying3 (lf2 4 3 (by simp) j hj)
  have f2_5 := fun j hj => leaf_int Tryz.underlying3 (lf2 5 3 (by simp) j hj)
  have f2_6 := fun j hj => leaf_int Tryz.underlying22 (lf2 6 22 (by simp) j hj)
  have f2_7 := fun j hj => leaf_int Tryz.underlying3 (lf2 7 3 (by simp) j hj)
  have f2_8 := fun j hj => leaf_int Tryz.underlying3 (lf2 8 3 (by simp) j hj)
  have f2_9 := fun j hj => leaf_int Tryz.underlying3 (lf2 9 3 (by simp) j hj)
  have f2_10 := fun j hj => leaf_int Tryz.underlying3 (lf2 10 3 (by simp) j hj)
  have f2_11 := lf2 11 46 (by simp)
  refine ⟨⟨rfl, rfl, rfl⟩, ?_⟩
  obtain ⟨D, hD⟩ := Go.Deep.choose_lt (n := n2) (p := fun j (d : Do) => (V2 j 0 = .int .i64 d.k ∧ V2 j 1 = .int .i64 d.id ∧ V2 j 2 = .int .i64 d.op ∧ V2 j 3 = .int .u64 d.dead ∧ V2 j 4 = .int .i64 d.tr ∧ V2 j 5 = .int .i64 d.sl ∧ V2 j 6 = .int .u64 d.ge ∧ V2 j 7 = .int .i64 d.fr ∧ V2 j 8 = .int .i64 d.ln ∧ V2 j 9 = .int .i64 d.no ∧ V2 j 10 = .int .i64 d.at') ∧ (wfI d.id ∧ wfI d.no) ∧ (0 ≤ d.dead ∧ d.dead ≤ 18446744073709551615) ∧ (-9223372036854775808 ≤ d.at' ∧ d.at' ≤ 9223372036854775807)) (fun j hj => by
    obtain ⟨x0, h0, -⟩ := f2_0 j hj
    obtain ⟨x1, h1, g1⟩ := f2_1 j hj
    obtain ⟨x2, h2, -⟩ := f2_2 j hj
    obtain ⟨x3, h3, g3⟩ := f2_3 j hj
    obtain ⟨x4, h4, -⟩ := f2_4 j hj
    obtain ⟨x5, h5, -⟩ := f2_5 j hj
    obtain ⟨x6, h6, -⟩ := f2_6 j hj
    obtain ⟨x7, h7, -⟩ := f2_7 j hj
    obtain ⟨x8, h8, -⟩ := f2_8 j hj
    obtain ⟨x9, h9, g9⟩ := f2_9 j hj
    obtain ⟨x10, h10, g10⟩ := f2_10 j hj
    exact ⟨⟨x0, x1, x2, x3, x4, x5, x6, x7, x8, x9, x10⟩, ⟨h0, h1, h2, h3, h4, h5, h6, h7, h8, h9, h10⟩, ⟨g1, g9⟩, bounds_u64 g3, bounds_i64 g10⟩)
  exact walk a0 a1 A2 n2 cap2 V2 D W (bounds_u8 w0) (bounds_u8 w1) (by omega) rd2 (fun j hj => by
    obtain ⟨h1, h2, h3, h4⟩ := hD j hj
    refine ⟨h1, h2, h3, h4, ?_⟩
    obtain ⟨B, m, c, V3, e, le, mx, rdm, lf⟩ := leaf_slice (m := 1) (d := 20) (l := [(0, 5)]) Tryz.underlying46 (by kernel_rfl) (by decide) (by kernel_rfl) (f2_11 j hj)
    obtain ⟨F, hF⟩ := Go.Deep.choose_lt (n := m) (p := fun i (z : Int) => V3 i 0 = .int .u8 z) (fun i hi => by
      obtain ⟨z, hz, _⟩ := leaf_int Tryz.underlying5 (lf 0 5 (by simp) i hi)
      exact ⟨z, hz⟩)
    refine ⟨B, c, (List.range m).map F, by simpa using e, by simp; omega, fun w' hb => ?_⟩
    refine ⟨by simp [po.bys], ?_⟩
    by_cases hm : m = 0
    · left; simpa using hm
    · right
      obtain ⟨g, off, rfl, hlt, hcell⟩ := rdm (by omega)
      refine ⟨g, off, rfl, fun i u hu => ?_⟩
      have hi : i < m := by
        rcases Nat.lt_or_ge i m with h | h
        · exact h
        · rw [List.getElem?_eq_none (by simp [po.bys]; omega)] at hu; cases hu
      have h := hcell i hi 0 (by omega)
      rw [hF i hi] at h
      have hu2 : u = .int .u8 (F i) := by simp [po.bys, hi] at hu; exact hu.symm
      rw [hu2]
      rw [show off + (i * 1 + 0) = off + i by omega] at h
      exact (hb.cell (p := ⟨g, off + i, none⟩) hlt).trans h)

theorem over : Rows.ioqQuietRow.holds Tryz.pinned (OpenSpec.ofChange Rows.ioqQuietSpec) :=
  OpenClaim.holds_of_wide 4 Tryz.f4 rfl rfl rfl rfl rfl rfl rfl ⟨rfl, rfl, rfl, rfl, rfl⟩ rfl rfl rfl rfl rfl (by kernel_rfl) Tryz.func4 (by kernel_rfl)
    (of_decide_eq_true (by kernel_rfl)) (by unfold Func.isWrapper; first | (rw [if_pos (by decide +kernel)]; kernel_rfl) | (rw [if_neg (by decide +kernel)]; exact ⟨rfl, rfl⟩))
    (fun os started H enc _ => lifted os started H enc)
theorem proved : Rows.IoqQuietSaid := over
#print axioms proved
end Go.Proofs.YtcbhhajcgfiigaaGreat.ioqQuiet
