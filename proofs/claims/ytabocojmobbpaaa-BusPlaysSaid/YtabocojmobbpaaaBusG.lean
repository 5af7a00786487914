/- Layer 6: a bus: Slot. -/
import Derived.Test.YtabocojmobbpaaaBusF
import Derived.Deep.DeepCutAuto
namespace Go.Proofs.Ytabocojmobbpaaa
open Go.RowKit
set_option linter.unusedVariables false
set_option maxRecDepth 100000
set_option maxHeartbeats 400000
theorem c16i {w : World} {g : Nat} {t : TypeId} {m : Nat → Bool} (h : Blk w g t (marksV m)) {i : Nat} (hi : i < 16) : w.cell? ⟨g, i, none⟩ = some (.bool (m i)) := by
  rw [h.cell]
  match i, hi with
  | 0, _ | 1, _ | 2, _ | 3, _ | 4, _ | 5, _ | 6, _ | 7, _ | 8, _ | 9, _ | 10, _ | 11, _ | 12, _ | 13, _ | 14, _ | 15, _ => rfl
  | n + 16, h => omega
section
variable {w0 w w' : World} {S0 : Nat → Prop} {L : List Res} {C : BC} {b g : Nat} {mp : Nat → Nat} {M now : Int} {s : BS} {k : Nat}
theorem slot_hor {A : Option Addr} {nw cap : Nat} (hl : ¬ now < 4611686018427387904) :
    Calls Try.prog 15 #[.pointer (some ⟨b, 0, none⟩), .int .u64 now, .slice A nw cap] w fun e w' => e = .returned (.tuple #[.int .i64 0, .int .i64 2]) ∧ Below w.heap.size w w' := by
  go_enter Try.func15, Try.ntmps15
  go_wp2_with fail
  refine (tmay_no _ _ (by omega)).mono ?_
  rintro e w' ⟨rfl, rfl⟩
  go_wp2_with fail
  go_ret2
  exact ⟨rfl, ((Below.refl _ _).alloc (Nat.le_refl _) _).alloc (by simp) _⟩
theorem slot_arg1 {A : Option Addr} {nw cap : Nat} {f : Nat → Int} (hl : now < 4611686018427387904) (c0 : w.cell? ⟨b, 0, none⟩ = some (.slice (some ⟨g, 0, none⟩) C.n C.n)) (hn : C.n ≤ 16) (hm : nw ≤ maxLen) (rd : Rd w A nw (fun j => .int .i64 (f j)))
    (hf : ¬ ∀ j, j < nw → 0 ≤ f j ∧ f j < C.n) :
    Calls Try.prog 15 #[.pointer (some ⟨b, 0, none⟩), .int .u64 now, .slice A nw cap] w fun e w' => e = .returned (.tuple #[.int .i64 0, .int .i64 1]) ∧ Below w.heap.size w w' := by
  have hb2 : Below w.heap.size w _ := ((Below.refl w.heap.size w).alloc (Nat.le_refl _) (.cells #[.pointer (some ⟨b, 0, none⟩)] 26)).alloc (by simp) (.cells #[.int .u64 now] 23)
  have MK := mark_no (cap := cap) (cell_alloc (cell_alloc c0 (.cells #[.pointer (some ⟨b, 0, none⟩)] 26)) (.cells #[.int .u64 now] 23)) hn hm (rd.below hb2 (Nat.le_refl _)) hf
  unfold marksV at MK
  have HM := Lib.hid MK
  have hbl := block_lt c0
  clear MK rd hf c0
  go_enter Try.func15, Try.ntmps15
  go_wp2_with fail
  refine (tmay_yes _ _ hl).mono ?_
  rintro e w' ⟨rfl, rfl⟩
  go_wp2_with fail
  refine HM.out.mono ?_
  rintro e w2 ⟨rfl, hw2⟩
  have hb3 := below_then hb2 hw2
  go_wp2_with fail
  go_quiet (fail)
  go_wp2_with fail
  go_ret2
  exact ⟨rfl, below_drewN (hb3.alloc hb3.size _) _⟩
theorem slot_arg2 {A : Option Addr} {nw cap : Nat} {f : Nat → Int} (hl : now < 4611686018427387904) (hB : Blk w b 64 #[.slice (some ⟨g, 0, none⟩) C.n C.n, .int .u64 s.next, .int .i64 s.who, .int .i64 s.row]) (hn : C.n ≤ 16) (hm : nw ≤ maxLen) (rd : Rd w A nw (fun j => .int .i64 (f j)))
    (hf : ∀ j, j < nw → 0 ≤ f j ∧ f j < C.n) (hx : now < s.next) :
    Calls Try.prog 15 #[.pointer (some ⟨b, 0, none⟩), .int .u64 now, .slice A nw cap] w fun e w' => e = .returned (.tuple #[.int .i64 0, .int .i64 1]) ∧ Below w.heap.size w w' := by
  have hb2 : Below w.heap.size w _ := ((Below.refl w.heap.size w).alloc (Nat.le_refl _) (.cells #[.pointer (some ⟨b, 0, none⟩)] 26)).alloc (by simp) (.cells #[.int .u64 now] 23)
  have MK := mark_yes (cap := cap) (C := C) (g := g) (cell_alloc (cell_alloc hB.four.1 (.cells #[.pointer (some ⟨b, 0, none⟩)] 26)) (.cells #[.int .u64 now] 23)) hn hm (rd.below hb2 (Nat.le_refl _)) hf
  unfold marksV at MK
  have HM := Lib.hid MK
  have d1 : decide (now < s.next) = true := decide_eq_true hx
  have sa : St w None ((w.alloc (.cells #[.pointer (some ⟨b, 0, none⟩)] 26)).alloc (.cells #[.int .u64 now] 23)) [BlkR w.heap.size 26 #[.pointer (some ⟨b, 0, none⟩)], BlkR (w.heap.size + 1) 23 #[.int .u64 now]] := by simpa using ((St.begin w).box 26 #[.pointer (some ⟨b, 0, none⟩)]).box 23 #[.int .u64 now]
  have HB := Lib.hid (fun (wr : World) (h : Below w.heap.size w wr) => (hB.below h hB.lt).four.2.1)
  clear MK rd hf hB
  go_enter Try.func15, Try.ntmps15
  go_wp2_with fail
  refine (tmay_yes _ _ hl).mono ?_
  rintro e w' ⟨rfl, rfl⟩
  go_wp2_with fail
  refine HM.out.mono ?_
  rintro e w2 ⟨rfl, hw2⟩
  generalize wantB nw f = m at *
  have s2 := sa.stay hw2
  have s3 := s2.alloc (.cells #[.bool (m 0), .bool (m 1), .bool (m 2), .bool (m 3), .bool (m 4), .bool (m 5), .bool (m 6), .bool (m 7), .bool (m 8), .bool (m 9), .bool (m 10), .bool (m 11), .bool (m 12), .bool (m 13), .bool (m 14), .bool (m 15)] 75)
  have q0 := (s3.blk 0 rfl).one
  have q1 := (s3.blk 1 rfl).one
  have q2 := HB.out _ s3.below
  clear sa s2 HM HB
  go_wp2_with fail
  go_quiet (fail)
  go_wp2_with fail
  go_ret2
  exact ⟨rfl, (s3.drewN _).below⟩
/-- The slot is some master's, or nobody's. -/
theorem slot_main {A : Option Addr} {nw cap kk : Nat} {f : Nat → Int} {S : Nat → Prop} (hw : BusR C b g mp s.next s w S) (hC : C.OK) (ho : s.OK C kk) (hkk : kk ≤ 2147483648) (hn0 : 0 ≤ now) (hl : now < 4611686018427387904) (hx : s.next ≤ now) (hm : nw ≤ maxLen) (rd : Rd w A nw (fun j => .int .i64 (f j)))
    (hf : ∀ j, j < nw → 0 ≤ f j ∧ f j < C.n) {v e0 : Int} {s' : BS} (hR : SlotR C s now true (wantB nw f) v e0 s') :
    Calls Try.prog 15 #[.pointer (some ⟨b, 0, none⟩), .int .u64 now, .slice A nw cap] w fun e w' => e = .returned (.tuple #[.int .i64 v, .int .i64 e0]) ∧ ∃ S', BusR C b g mp s'.next s' w' S' ∧ Did S S' w w' := by
  have hn := hC.n16
  have st0 : St w S w [BusR C b g mp now s] := bus_later (St.start (Star.one (BusR.ok _ _ _ _ _ _) hw)) 0 rfl hx
  have hB := bus_blk st0 0 rfl
  have hb2 : Below w.heap.size w _ := ((Below.refl w.heap.size w).alloc (Nat.le_refl _) (.cells #[.pointer (some ⟨b, 0, none⟩)] 26)).alloc (by simp) (.cells #[.int .u64 now] 23)
  have MK := mark_yes (cap := cap) (C := C) (g := g) (cell_alloc (cell_alloc hB.four.1 (.cells #[.pointer (some ⟨b, 0, none⟩)] 26)) (.cells #[.int .u64 now] 23)) hn hm (rd.below hb2 (Nat.le_refl _)) hf
  unfold marksV at MK
  have HM := Lib.hid MK
  have d1 : decide (now < s.next) = false := decide_eq_false (by omega)
  have sa : St w S ((w.alloc (.cells #[.pointer (some ⟨b, 0, none⟩)] 26)).alloc (.cells #[.int .u64 now] 23)) [BusR C b g mp now s, BlkR w.heap.size 26 #[.pointer (some ⟨b, 0, none⟩)], BlkR (w.heap.size + 1) 23 #[.int .u64 now]] := by
    simpa using (st0.box 26 #[.pointer (some ⟨b, 0, none⟩)]).box 23 #[.int .u64 now]
  have hw1 := who1_bd ho now
  have hr1 := row1_bd ho now
  have hst := ho.st
  have HR := Lib.hid hR
  clear MK rd hf hB st0 hw ho hR
  go_enter Try.func15, Try.ntmps15
  go_wp2_with fail
  refine (tmay_yes _ _ hl).mono ?_
  rintro e w' ⟨rfl, rfl⟩
  go_wp2_with fail
  refine HM.out.mono ?_
  rintro e w2 ⟨rfl, hw2⟩
  generalize wantB nw f = m at *
  generalize w.heap.size = h0 at sa HM hw2 ⊢
  have s2 : St w S _ [_, _, _] := sa.stay hw2
  have s3 : St w S _ [_, _, _, _] := s2.box 75 #[.bool (m 0), .bool (m 1), .bool (m 2), .bool (m 3), .bool (m 4), .bool (m 5), .bool (m 6), .bool (m 7), .bool (m 8), .bool (m 9), .bool (m 10), .bool (m 11), .bool (m 12), .bool (m 13), .bool (m 14), .bool (m 15)]
  have q0 := (s3.blk 1 rfl).one
  have q1 := (s3.blk 2 rfl).one
  obtain ⟨c0, c1, c2, c3⟩ := (bus_blk s3 0 rfl).four
  clear sa s2 HM hw2
  go_wp2_with fail
  generalize w2.heap.size = h3 at *
  go_quiet (fail)
  have s4 := s3.drewN nq
  clear s3 q0 q1 c0 c1 c2 c3
  generalize World.drewN _ nq = w4 at *
  have q0 := (s4.blk 1 rfl).one
  have q1 := (s4.blk 2 rfl).one
  obtain ⟨c0, c1, c2, c3⟩ := (bus_blk s4 0 rfl).four
  go_wp2_with fail
  go_quiet (fail)
  have s5 : St w S _ [_, _, _, _] := s4.drewN nq
  clear s4 q0 q1 c0 c1 c2 c3
  generalize World.drewN _ nq = w5 at *
  have q0 := (s5.blk 1 rfl).one
  have q1 := (s5.blk 2 rfl).one
  obtain ⟨c0, c1, c2, c3⟩ := (bus_blk s5 0 rfl).four
  go_upto_if 35 with (fail)
  go_cut [] (fun wx => St w S wx [BusR C b g mp now ⟨s.ws, s.st, s.next, s.who1 now, s.row1 now⟩, BlkR h0 26 #[.pointer (some ⟨b, 0, none⟩)], BlkR (h0 + 1) 23 #[.int .u64 now], BlkR h3 75 (marksV m)])
  case first =>
    by_cases hgt : s.next < now
    · have d2 : decide (s.next < now) = true := decide_eq_true hgt
      have e1 : s.who1 now = -1 := if_pos hgt
      have e2 : s.row1 now = 0 := if_pos hgt
      have f2 := (bus_blk s5 0 rfl).frozen 2
      have f3 := (bus_blk s5 0 rfl).frozen 3
      have HE := Lib.hid (And.intro e1 e2)
      clear e1 e2
      go_wp2_with fail
      go_region
      all_goals
        go_wp2_with fail
        go_meet
        rw [HE.out.1, HE.out.2]
        first
          | exact bus_row (bus_who s5.drew 0 rfl (-1)) 0 rfl 0
          | exact bus_who (bus_row s5.drew 0 rfl 0) 0 rfl (-1)
    · have d2 : decide (s.next < now) = false := decide_eq_false hgt
      have e1 : s.who1 now = s.who := if_neg hgt
      have e2 : s.row1 now = s.row := if_neg hgt
      have HE := Lib.hid (And.intro e1 e2)
      clear e1 e2
      go_wp2_with fail
      go_meet
      rw [HE.out.1, HE.out.2]
      exact s5
  case rest =>
  have s6 : St w S wc [BusR C b g mp now ⟨s.ws, s.st, s.next, s.who1 now, s.row1 now⟩, BlkR h0 26 #[.pointer (some ⟨b, 0, none⟩)], BlkR (h0 + 1) 23 #[.int .u64 now], BlkR h3 75 (marksV m)] := hcut
  clear s5 q0 q1 c0 c1 c2 c3 hcut
  have BF := bfirst (q := fun i => m i && mayB C s.ws (s.who1 now) (s.row1 now) now i) s6 0 rfl hC (fun wr hr i hi => bcl (s := ⟨s.ws, s.st, s.next, s.who1 now, s.row1 now⟩) hr 0 rfl hC hi hl (c16i (hr.blk 3 rfl) (by omega)) (hr.blk 1 rfl).one (hr.blk 2 rfl).one)
  have q0 := (s6.blk 1 rfl).one
  have q1 := (s6.blk 2 rfl).one
  clear s6
  rcases HR.out with ⟨h, _⟩ | ⟨_, h, _⟩ | ⟨_, _, _, hb, rfl, rfl, hs'⟩ | ⟨_, _, _, i, hbn, hb, rfl, rfl, hs'⟩
  · exact absurd hl h
  · exact absurd ⟨rfl, hx⟩ h
  · have HS' := Lib.hid hs'
    clear HR hs'
    rw [show fst (fun i => m i && mayB C s.ws (s.who1 now) (s.row1 now) now i) C.prio C.n = -1 from hb] at BF
    have HF := Lib.hid BF
    clear BF hb
    go_wp2_with fail
    refine HF.out.mono ?_
    rintro e w7 ⟨rfl, s7⟩
    have BT := bstall (m := m) (-1) s7 0 rfl hC (fun i hi => by have := hst i hi; dsimp only; omega)
    unfold marksV at BT
    have HT := Lib.hid BT
    obtain ⟨x0, x1, x2, x3, x4, x5, x6, x7, x8, x9, x10, x11, x12, x13, x14, x15⟩ := c16 (s7.blk 3 rfl)
    have q0 := (s7.blk 1 rfl).one
    have q1 := (s7.blk 2 rfl).one
    clear BT HF s7
    go_wp2_with fail
    refine HT.out.mono ?_
    rintro e w8 ⟨rfl, s8'⟩
    have s8 : St w S w8 [_, BlkR h0 26 #[.pointer (some ⟨b, 0, none⟩)], BlkR (h0 + 1) 23 #[.int .u64 now], BlkR h3 75 (marksV m)] := s8'
    clear s8' x0 x1 x2 x3 x4 x5 x6 x7 x8 x9 x10 x11 x12 x13 x14 x15 q0 q1 HT
    have q0 := (s8.blk 1 rfl).one
    have q1 := (s8.blk 2 rfl).one
    have HH := Lib.hid (bhave_no s8 0 rfl ⟨hn0, hl⟩)
    clear s8
    go_wp2_with fail
    refine HH.out.mono ?_
    rintro e w9 ⟨rfl, s9'⟩
    have s9 : St w S w9 [_] := s9'.take 1
    have s10 := bus_later s9 0 rfl (show now ≤ now + 1 by omega)
    have S10 := Lib.hid s10
    clear s9 s9' s10 HH q0 q1
    go_wp2_with fail
    go_ret2
    exact ⟨rfl, by rw [HS'.out]; exact S10.out.fin fun S' h => star_one h⟩
  · have hq := fst_q hb
    simp only [Bool.and_eq_true] at hq
    have hleft : 0 < C.left s.ws i now := by have := hq.2; unfold mayB at this; simp at this; exact this.2
    have di : ((i : Int) == -1) = false := beq_eq_false_iff_ne.2 (by omega)
    have HS' := Lib.hid hs'
    clear HR hq hs'
    rw [show fst (fun i => m i && mayB C s.ws (s.who1 now) (s.row1 now) now i) C.prio C.n = (i : Int) from hb] at BF
    have HF := Lib.hid BF
    clear BF hb
    go_wp2_with fail
    refine HF.out.mono ?_
    rintro e w7 ⟨rfl, s7⟩
    have BT := bstall (m := m) ((i : Int)) s7 0 rfl hC (fun i hi => by have := hst i hi; dsimp only; omega)
    unfold marksV at BT
    have HT := Lib.hid BT
    obtain ⟨x0, x1, x2, x3, x4, x5, x6, x7, x8, x9, x10, x11, x12, x13, x14, x15⟩ := c16 (s7.blk 3 rfl)
    have q0 := (s7.blk 1 rfl).one
    have q1 := (s7.blk 2 rfl).one
    clear BT HF s7
    go_wp2_with fail
    refine HT.out.mono ?_
    rintro e w8 ⟨rfl, s8'⟩
    have s8 : St w S w8 [_, BlkR h0 26 #[.pointer (some ⟨b, 0, none⟩)], BlkR (h0 + 1) 23 #[.int .u64 now], BlkR h3 75 (marksV m)] := s8'
    clear s8' x0 x1 x2 x3 x4 x5 x6 x7 x8 x9 x10 x11 x12 x13 x14 x15 q0 q1 HT
    have q0 := (s8.blk 1 rfl).one
    have q1 := (s8.blk 2 rfl).one
    have HH := Lib.hid (bhave_yes s8 0 rfl hC ⟨hn0, hl⟩ hbn hleft (by dsimp only; omega))
    clear s8
    go_wp2_with fail
    refine HH.out.mono ?_
    rintro e w9 ⟨rfl, s9'⟩
    have s9 : St w S w9 [_] := s9'.take 1
    have s10 := bus_later s9 0 rfl (show now ≤ now + 1 by omega)
    have S10 := Lib.hid s10
    clear s9 s9' s10 HH q0 q1
    go_wp2_with fail
    go_ret2
    exact ⟨rfl, by rw [HS'.out]; exact S10.out.fin fun S' h => star_one h⟩
end
end Go.Proofs.Ytabocojmobbpaaa
