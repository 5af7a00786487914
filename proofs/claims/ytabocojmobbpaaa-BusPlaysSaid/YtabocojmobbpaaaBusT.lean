/- Layer 6: the document's own bus: a slot is handed out. -/
import Derived.Test.YtabocojmobbpaaaBusS
import Derived.LoopTactic
namespace Go.Proofs.Ytabocojmobbpaaa
open Go.RowKit
set_option linter.unusedVariables false
set_option maxRecDepth 100000
set_option maxHeartbeats 1600000
theorem run_make_bools {P : Program} (t e : TypeId) (i : TypeInfo) (z : Value) (ht : P.underlying t = some (.slice e)) (hi : P.info? e = some i) (hz : i.zero = some z) (hz1 : z.cells = #[z]) (hs : i.size = 1) (n : Nat) (hb : i.bytes = 1) (hn : n ≤ 16) (W : World) :
    (Instr.makeSlice t (.int .i64 (n : Int)) (.int .i64 (n : Int))).run P W = .ok (.slice (some ⟨W.heap.size, 0, none⟩) n n) (W.alloc (.cells (madeCells #[z] n) e)) :=
  run_make_rowN t e i z ht hi hz hz1 hs .i64 .i64 n (by rw [hb]; omega) (by omega) W
section
variable {w0 w w' : World} {N : List Res} {C : BC} {cap r sb : Nat} {rp : Nat → Nat} {mg mo ib io cm : Nat} {Ah : Option Addr} {ch : Nat} {now : Int} {hr : List (Int × Int)} {s : BS} {V : Nat → Nat → Value}
theorem rslot_main {A2 : Option Addr} {nw cap2 kk : Nat} {f : Nat → Int} {v e0 : Int} {s' : BS} (H : St w0 None w (RL [] N C (some ⟨ib, io, none⟩) cap r sb rp (some ⟨mg, mo, none⟩) cm Ah ch now hr s)) (hC : C.OK) (rdm : RdM w0 (some ⟨ib, io, none⟩) C.n 4 V) (hV : MV C V) (hbs : s.OK C kk) (hkk : kk ≤ 190) (ho : HOK C.ph s hr) (hlen : hr.length ≤ 190)
    (hlf : ∀ j, j < C.n → 0 ≤ C.left s.ws j now) (hn0 : 0 ≤ now) (hl : now < 4611686018427387904) (hx : s.next ≤ now) (hm : nw ≤ maxLen) (rd : Rd w A2 nw (fun j => .int .i64 (f j))) (hf : ∀ j, j < nw → 0 ≤ f j ∧ f j < C.n) (hR : SlotR C s now true (wantB nw f) v e0 s') :
    Calls Try.prog 16 #[.pointer (some ⟨r, 0, none⟩), .int .u64 now, .slice A2 nw cap2] w fun e w' => e = .returned (.tuple #[.int .i64 v, .int .i64 e0]) ∧ ∃ Ah' ch', St w0 None w' (RL [] N C (some ⟨ib, io, none⟩) cap r sb rp (some ⟨mg, mo, none⟩) cm Ah' ch' now ((now, s'.who) :: hr) s') := by
  have d1 : decide (4611686018427387904 ≤ now) = false := decide_eq_false (by omega)
  unfold maxLen at hm
  have hn := hC.n16
  have HB := H.blk 0 rfl
  have c0 := HB.five.1
  have c1 := HB.five.2.1
  have c4 := HB.five.2.2.2.2
  have HLs := Lib.hid (H.lis 3 rfl).reads.2
  have HO := Lib.hid ho
  have HH := Lib.hid H
  have HR := Lib.hid hR
  have HBS := Lib.hid hbs
  have HLF := Lib.hid hlf
  obtain ⟨iB, hiB, hzB, hsB, hbB⟩ := info_parts Try.infoB
  have MK := Lib.hid (fun W => run_make_bools (P := Try.prog) 58 4 iB (.bool false) Try.underlying58 hiB hzB rfl hsB C.n hbB hn W)
  have hnx := hbs.next
  clear ho H hR hbs HB hiB hzB hsB hbB hlf
  go_enter Try.func16, Try.ntmps16
  go_wp2_with fail
  go_loopw [8] (fun i wr => ∃ k q : Nat, k ≤ nw ∧ i = .int .i64 k ∧ wr = w.drewN q) (fun i _ => nw - (intOf i).toNat)
  case atStart => exact ⟨0, 0, by omega, rfl, rfl⟩
  case round =>
    obtain ⟨k, q, hk, rfl, rfl⟩ := hrel
    by_cases hlt : k < nw
    · obtain ⟨bq, off, rfl, hib, hcell⟩ := rd (by omega)
      have ck := hcell k (by omega)
      dsimp only at ck
      have i0' : (0 : Int) ≤ (k : Int) := by omega
      have i1' : (k : Int) < (nw : Int) := by omega
      have hb := hf k hlt
      obtain ⟨x, hx⟩ : ∃ x, f k = x := ⟨_, rfl⟩
      rw [hx] at hb ck
      have d2 : decide (x < 0) = false := decide_eq_false (by omega)
      have d3 : decide ((C.n : Int) ≤ x) = false := decide_eq_false (by omega)
      clear hcell hx hf
      go_wp2_with fail
      go_quiet (fail)
      go_wp2
      go_roundw
      case rel => exact ⟨k + 1, _, by omega, by go_num, rfl⟩
      case measure => simp [intOf]; omega
    · obtain rfl : k = nw := by omega
      have d2 : decide (now < C.ph) = false := decide_eq_false (by omega)
      go_wp2_with fail
      go_cut [72] (fun y wx => y = .bool false ∧ ∃ q2 : Nat, wx = (w.drewN q).drewN q2)
      case first =>
        cases hr with
        | nil =>
          go_quiet (fail)
          go_wp2_with fail
          go_meet
          exact ⟨rfl, _, rfl⟩
        | cons p t =>
          have htop := HO.out.top p t rfl
          obtain ⟨g, off, rfl, hcc⟩ := HLs.out.resolve_left (by simp)
          have x0 := hcc _ _ (hc_at (l := p :: t) (d := 0) rfl).1
          have e0 : (p :: t).length - 1 - 0 = t.length := by simp
          rw [e0] at x0
          have el : (p :: t).length = t.length + 1 := by simp
          rw [el] at c4 hlen
          have d3 : decide (now ≤ p.1) = false := decide_eq_false (by omega)
          have d4 : decide ((0 : Int) < ((t.length + 1 : Nat) : Int)) = true := decide_eq_true (by omega)
          have d5 : decide ((0 : Int) < (t.length : Int) + 1) = true := decide_eq_true (by omega)
          obtain ⟨q2, hq2⟩ : ∃ q2, t.length = q2 := ⟨_, rfl⟩
          rw [hq2] at c4 x0 hlen d4 d5
          obtain ⟨p1, p2⟩ := p
          dsimp only at x0 d3
          have i0' : (0 : Int) ≤ (q2 : Int) := by omega
          clear hcc htop e0 el hq2 HLs HO HH
          go_quiet (fail)
          go_wp2_with fail
          go_meet
          exact ⟨rfl, _, rfl⟩
      case rest =>
      obtain ⟨rfl, q2, rfl⟩ := hcut
      have hbel : Below w.heap.size w ((w.drewN q).drewN q2) := below_drewN (below_drewN (Below.refl _ _) _) _
      have s2 := (HH.out.drewN q).drewN q2
      clear HH HLs c0 c1 c4 d2
      generalize World.drewN (w.drewN q) q2 = w2 at *
      have c0 := (s2.blk 0 rfl).five.1
      have s3 := s2.front_row 4 C.n (.bool false)
      have hbel3 := hbel.alloc hbel.size (.cells (madeCells #[.bool false] C.n) 4)
      have hwb : w.heap.size ≤ w2.heap.size := hbel.size
      have mk := MK.out
      go_wp2_with fail
      clear mk MK s2 c0
      generalize w2.heap.size = wb at *
      go_loopw [10] (fun i wr => ∃ j : Nat, j ≤ k ∧ i = .int .i64 j ∧ St w0 None wr (RL [ArrR wb 4 C.n (fun i => .bool (wantB j f i))] N C (some ⟨ib, io, none⟩) cap r sb rp (some ⟨mg, mo, none⟩) cm Ah ch now hr s) ∧ Below w.heap.size w wr) (fun i _ => k - (intOf i).toNat)
      case atStart => exact ⟨0, by omega, rfl, by rw [wantB_zero]; exact s3, hbel3⟩
      case round =>
        clear s3 hbel3 hbel
        obtain ⟨j, hj, rfl, sr, hbel⟩ := hrel
        by_cases hlt2 : j < k
        · obtain ⟨bq, off, rfl, hib, hcell⟩ := rd.below hbel (Nat.le_refl _) (by omega)
          have ck := hcell j hlt2
          dsimp only at ck
          obtain ⟨i, hi⟩ : ∃ i : Nat, f j = i := ⟨(f j).toNat, by have := hf j hlt2; omega⟩
          have hin : i < C.n := by have := hf j hlt2; omega
          rw [hi] at ck
          have s4 := (sr.arr_set 0 rfl hin (.bool true)).arr_like (V' := fun q => .bool (wantB (j + 1) f q)) 0 rfl (fun q hq => by rw [wantB_succ j f i hi]; dsimp only; split <;> rfl)
          have S4 : Hid (St w0 None _ (RL [ArrR wb 4 C.n (fun i => .bool (wantB (j + 1) f i))] N C (some ⟨ib, io, none⟩) cap r sb rp (some ⟨mg, mo, none⟩) cm Ah ch now hr s)) := Lib.hid s4
          have HBEL := Lib.hid (hbel.setCell (p := ⟨wb, i, none⟩) hwb (.bool true))
          have cm0 := sr.arr_cell 0 rfl hin
          have fm0 := sr.arr_frozen 0 rfl i
          have i0' : (0 : Int) ≤ (i : Int) := by omega
          have i1' : (i : Int) < (C.n : Int) := by omega
          clear hcell s4 hi sr hbel hf
          go_wp2
          go_roundw
          case rel => exact ⟨j + 1, by omega, by go_num, S4.out, HBEL.out⟩
          case measure => simp [intOf]; omega
        · obtain rfl : j = k := by omega
          obtain ⟨m, hm⟩ : ∃ m, m = wantB j f := ⟨_, rfl⟩
          rw [← hm] at sr HR
          have hf := 0
          clear hm hf rd hbel
          obtain ⟨q, hq⟩ : ∃ q : Nat → Bool, (fun i => m i && mayB C s.ws (s.who1 now) (s.row1 now) now i) = q := ⟨_, rfl⟩
          have HQD := Lib.hid hq
          clear hq
          have MT := Lib.hid (fun (wz : World) (h : St w0 None wz (RL [ArrR wb 4 C.n (fun i => .bool (m i))] N C (some ⟨ib, io, none⟩) cap r sb rp (some ⟨mg, mo, none⟩) cm Ah ch now hr s)) (j : Nat) (hj : j < C.n) => show wz.cell? ⟨mg, mo + j, none⟩ = some (.pointer (some ⟨rp j, 0, none⟩)) by
            obtain ⟨A', cap', hv, _, _, _, hcell⟩ := h.lis_cells 2 rfl
            injection hv with e1 _ e2
            obtain ⟨g, off, e3, hcc⟩ := hcell.resolve_left (by omega)
            rw [← e1] at e3
            injection e3 with e3; injection e3 with e4 e5; subst e4; subst e5
            exact hcc _ _ (mcs_at hj))
          go_wp2_with fail
          go_loopw [11, 12] (fun y i wr => ∃ j : Nat, j ≤ C.n ∧ i = .int .i64 j ∧ y = .int .i64 (fst q C.prio j) ∧ St w0 None wr (RL [ArrR wb 4 C.n (fun i => .bool (m i))] N C (some ⟨ib, io, none⟩) cap r sb rp (some ⟨mg, mo, none⟩) cm Ah ch now hr s)) (fun _ i _ => C.n - (intOf i).toNat)
          case atStart => exact ⟨0, by omega, rfl, rfl, sr⟩
          case round =>
            clear sr
            obtain ⟨j, hj, rfl, rfl, sr⟩ := hrel
            by_cases hlt : j < C.n
            · have cb0 := (sr.blk 1 rfl).five.1
              have cb2 := (sr.blk 1 rfl).five.2.2.1
              have cmt := MT.out _ sr j hlt
              have i0 : (0 : Int) ≤ (j : Int) := by omega
              have i1 : (j : Int) < (C.n : Int) := by omega
              have LF := Lib.hid (rb_left sr hlt hn0 hl)
              clear sr
              go_wp2_with fail
              refine LF.out.mono ?_
              rintro e w5 ⟨rfl, s5⟩
              clear LF cb0 cb2 cmt
              have cb0 := (s5.blk 1 rfl).five.1
              obtain ⟨_, _, ee, m0, m1, m2, m3⟩ := hV.at_ rdm s5.below hlt
              injection ee with ee; injection ee with ee1 ee2; subst ee1; subst ee2
              have s6 := s5.front 34 #[.int .i64 (C.prio j), .int .i64 (C.burst j), .int .u64 (C.B j), .int .u64 (C.P j)]
              go_wp2_with fail
              obtain ⟨pb, hpb⟩ : ∃ pb, w5.heap.size = pb := ⟨_, rfl⟩
              rw [hpb] at s6 ⊢
              have SR : Hid (St w0 None _ (RL [BlkR pb 34 #[.int .i64 (C.prio j), .int .i64 (C.burst j), .int .u64 (C.B j), .int .u64 (C.P j)], ArrR wb 4 C.n (fun i => .bool (m i))] N C (some ⟨ib, io, none⟩) cap r sb rp (some ⟨mg, mo, none⟩) cm Ah ch now hr s)) := Lib.hid s6
              clear hpb s6 s5 cb0 m0 m1 m2 m3
              generalize World.alloc w5 _ = w6 at *
              obtain ⟨p, PI, PO⟩ : ∃ p : World → Prop, (∀ wz, St w0 None wz (RL [BlkR pb 34 #[.int .i64 (C.prio j), .int .i64 (C.burst j), .int .u64 (C.B j), .int .u64 (C.P j)], ArrR wb 4 C.n (fun i => .bool (m i))] N C (some ⟨ib, io, none⟩) cap r sb rp (some ⟨mg, mo, none⟩) cm Ah ch now hr s) → p wz) ∧ (∀ wz, p wz → St w0 None wz (RL [BlkR pb 34 #[.int .i64 (C.prio j), .int .i64 (C.burst j), .int .u64 (C.B j), .int .u64 (C.P j)], ArrR wb 4 C.n (fun i => .bool (m i))] N C (some ⟨ib, io, none⟩) cap r sb rp (some ⟨mg, mo, none⟩) cm Ah ch now hr s)) := ⟨_, fun _ h => h, fun _ h => h⟩
              have u0 : ∀ u : Within p, u.w.cell? ⟨wb, j, none⟩ = some (.bool (m j)) := fun u => (PO _ u.h).arr_cell 1 rfl hlt
              have u1 : ∀ u : Within p, u.w.cell? ⟨pb, 1, none⟩ = some (.int .i64 (C.burst j)) := fun u => ((PO _ u.h).blk 0 rfl).four.2.1
              have u2 := 0
              have u3 := 0
              haveI : Nonempty (Within p) := ⟨⟨_, PI _ SR.out⟩⟩
              have RR := Lib.hid (fun (wz : World) (h : p wz) => (rrow (r := r) (j : Int) now wz ((PO _ h).blk 2 rfl).five.2.2.2.2 ((PO _ h).lis 5 rfl) (by omega) HO.out.bd ⟨hn0, by omega⟩).mono fun e w' (g : e = .returned (.int .i64 (run j now hr)) ∧ wz = w') => (⟨g.1, g.2 ▸ h⟩ : e = .returned (.int .i64 (run j now hr)) ∧ p w'))
              have hrun := run_now HO.out hx j
              have hlf0 := HLF.out j hlt
              have hbu := hC.burst j hlt
              cases hmj : m j with
              | false =>
                have HF := Lib.hid (fst_no (q := q) (prio := C.prio) (k := j) (by rw [← HQD.out]; simp [hmj]))
                rw [hmj] at u0
                clear hmj hrun
                go_wp2_with fail
                refine wp_region_in p (by kernel_rfl) (by kernel_rfl) (PI _ SR.out.drew) ?_
                repeat (go_big_quiet_step ((go_at_call 33; exact in_call (p := p) (RR.out _ (Within.h (p := p) _)))))
                refine wpQuiet_nil ?_
                rintro wq ⟨⟨wq2, sq⟩, hwq⟩
                replace hwq : wq = wq2 := hwq
                subst hwq
                have s7 : St w0 None wq (RL [ArrR wb 4 C.n (fun i => .bool (m i))] N C (some ⟨ib, io, none⟩) cap r sb rp (some ⟨mg, mo, none⟩) cm Ah ch now hr s) := (PO _ sq).drop 0 (by simp)
                have S7 := Lib.hid s7
                clear sq s7 u0 u1 u2 u3 SR
                go_wp2
                go_roundw
                case rel => exact ⟨j + 1, by omega, by go_num, by rw [HF.out], S7.out⟩
                case measure => simp [intOf]; omega
              | true =>
                rw [hmj] at u0
                obtain ⟨lf, hlf⟩ : ∃ lf, C.left s.ws j now = lf := ⟨_, rfl⟩
                rw [hlf] at hlf0 ⊢
                by_cases hl0 : lf = 0
                · have HF := Lib.hid (fst_no (q := q) (prio := C.prio) (k := j) (by rw [← HQD.out]; simp [mayB, hlf, hl0]))
                  have dl : (lf == 0) = true := beq_iff_eq.2 hl0
                  clear hmj hrun hlf
                  subst hl0
                  go_wp2_with fail
                  refine wp_region_in p (by kernel_rfl) (by kernel_rfl) (PI _ SR.out.drew) ?_
                  repeat (go_big_quiet_step ((go_at_call 33; exact in_call (p := p) (RR.out _ (Within.h (p := p) _)))))
                  refine wpQuiet_nil ?_
                  rintro wq ⟨⟨wq2, sq⟩, hwq⟩
                  replace hwq : wq = wq2 := hwq
                  subst hwq
                  have s7 : St w0 None wq (RL [ArrR wb 4 C.n (fun i => .bool (m i))] N C (some ⟨ib, io, none⟩) cap r sb rp (some ⟨mg, mo, none⟩) cm Ah ch now hr s) := (PO _ sq).drop 0 (by simp)
                  have S7 := Lib.hid s7
                  clear sq s7 u0 u1 u2 u3 SR
                  go_wp2
                  go_roundw
                  case rel => exact ⟨j + 1, by omega, by go_num, by rw [HF.out], S7.out⟩
                  case measure => simp [intOf]; omega
                · have dl : (lf == 0) = false := beq_eq_false_iff_ne.2 hl0
                  have dl2 : decide (0 < lf) = true := decide_eq_true (by omega)
                  by_cases hb0 : 0 < C.burst j
                  · have db : decide (0 < C.burst j) = true := decide_eq_true hb0
                    by_cases hge : C.burst j ≤ run j now hr
                    · have dg : decide (C.burst j ≤ (run j now hr : Int)) = true := decide_eq_true hge
                      have hwr : s.who1 now = j ∧ C.burst j ≤ s.row1 now := by
                        rw [hrun] at hge
                        by_cases e : s.who1 now = j
                        · rw [if_pos e] at hge; exact ⟨e, hge⟩
                        · rw [if_neg e] at hge; omega
                      have HF := Lib.hid (fst_no (q := q) (prio := C.prio) (k := j) (by rw [← HQD.out]; simp [mayB, hb0, hwr.1, hwr.2]))
                      generalize (run j now hr : Int) = rn at *
                      clear hmj hrun hlf hwr
                      go_wp2_with fail
                      refine wp_region_in p (by kernel_rfl) (by kernel_rfl) (PI _ SR.out.drew) ?_
                      repeat (go_big_quiet_step ((go_at_call 33; exact in_call (p := p) (RR.out _ (Within.h (p := p) _)))))
                      refine wpQuiet_nil ?_
                      rintro wq ⟨⟨wq2, sq⟩, hwq⟩
                      replace hwq : wq = wq2 := hwq
                      subst hwq
                      have s7 : St w0 None wq (RL [ArrR wb 4 C.n (fun i => .bool (m i))] N C (some ⟨ib, io, none⟩) cap r sb rp (some ⟨mg, mo, none⟩) cm Ah ch now hr s) := (PO _ sq).drop 0 (by simp)
                      have S7 := Lib.hid s7
                      clear sq s7 u0 u1 u2 u3 SR
                      go_wp2
                      go_roundw
                      case rel => exact ⟨j + 1, by omega, by go_num, by rw [HF.out], S7.out⟩
                      case measure => simp [intOf]; omega
                    · have dg : decide (C.burst j ≤ (run j now hr : Int)) = false := decide_eq_false hge
                      have HQ := Lib.hid (show q j = true by
                        rw [← HQD.out]
                        simp only [hmj, Bool.true_and, mayB, hlf, dl2, Bool.and_true, Bool.not_eq_true', Bool.and_eq_false_iff, decide_eq_false_iff_not]
                        right
                        by_cases e : s.who1 now = j
                        · right; rw [hrun, if_pos e] at hge; exact hge
                        · left; exact e)
                      generalize (run j now hr : Int) = rn at *
                      clear hmj hrun hlf hge
                      go_wp2_with fail
                      refine wp_region_in p (by kernel_rfl) (by kernel_rfl) (PI _ SR.out.drew) ?_
                      repeat (go_big_quiet_step ((go_at_call 33; exact in_call (p := p) (RR.out _ (Within.h (p := p) _)))))
                      refine wpQuiet_nil ?_
                      rintro wq ⟨⟨wq2, sq⟩, hwq⟩
                      replace hwq : wq = wq2 := hwq
                      subst hwq
                      have s7 : St w0 None wq (RL [BlkR pb 34 #[.int .i64 (C.prio j), .int .i64 (C.burst j), .int .u64 (C.B j), .int .u64 (C.P j)], ArrR wb 4 C.n (fun i => .bool (m i))] N C (some ⟨ib, io, none⟩) cap r sb rp (some ⟨mg, mo, none⟩) cm Ah ch now hr s) := PO _ sq
                      clear sq u0 u1 u2 u3 SR
                      obtain ⟨p0, p1, p2, p3⟩ := (s7.blk 0 rfl).four
                      have cb0 := (s7.blk 2 rfl).five.1
                      have hfst := fst_bd q C.prio j
                      by_cases hr0 : fst q C.prio j = -1
                      · have HF := Lib.hid (fst_yes (q := q) (prio := C.prio) (k := j) HQ.out (Or.inl hr0))
                        have e0 : decide (fst q C.prio j < 0) = true := decide_eq_true (by omega)
                        generalize fst q C.prio j = rr at *
                        have SQ := Lib.hid s7
                        clear hr0 s7
                        go_wp2_with fail
                        go_quiet (fail)
                        have s8 : St w0 None _ (RL [ArrR wb 4 C.n (fun i => .bool (m i))] N C (some ⟨ib, io, none⟩) cap r sb rp (some ⟨mg, mo, none⟩) cm Ah ch now hr s) := (SQ.out.drewN nq).drop 0 (by simp)
                        have S8 := Lib.hid s8
                        clear s8
                        go_wp2
                        go_roundw
                        case rel => exact ⟨j + 1, by omega, by go_num, by rw [HF.out], S8.out⟩
                        case measure => simp [intOf]; omega
                      · obtain ⟨c, hc⟩ : ∃ c : Nat, fst q C.prio j = c := ⟨(fst q C.prio j).toNat, by omega⟩
                        have hcn : c < C.n := by omega
                        obtain ⟨_, _, ee, m0, _, _, _⟩ := hV.at_ rdm s7.below hcn
                        injection ee with ee; injection ee with ee1 ee2; subst ee1; subst ee2
                        have i2 : (0 : Int) ≤ (c : Int) := by omega
                        have i3 : (c : Int) < (C.n : Int) := by omega
                        have e0 : decide ((c : Int) < 0) = false := decide_eq_false (by omega)
                        have SQ := Lib.hid s7
                        have HCC := Lib.hid hc
                        by_cases hp : C.prio j < C.prio c
                        · have HF := Lib.hid (fst_yes (q := q) (prio := C.prio) (k := j) HQ.out (Or.inr (by rw [hc]; simpa using hp)))
                          have d2 : decide (C.prio j < C.prio c) = true := decide_eq_true hp
                          rw [hc]
                          clear hr0 hc hfst hp s7
                          go_wp2_with fail
                          go_quiet (fail)
                          have s8 : St w0 None _ (RL [ArrR wb 4 C.n (fun i => .bool (m i))] N C (some ⟨ib, io, none⟩) cap r sb rp (some ⟨mg, mo, none⟩) cm Ah ch now hr s) := (SQ.out.drewN nq).drop 0 (by simp)
                          have S8 := Lib.hid s8
                          clear s8
                          go_wp2
                          go_roundw
                          case rel => exact ⟨j + 1, by omega, by go_num, by rw [HF.out], S8.out⟩
                          case measure => simp [intOf]; omega
                        · have HF := Lib.hid (fst_no (q := q) (prio := C.prio) (k := j) (by rw [hc]; rintro ⟨_, h | h⟩; omega; simp at h; omega))
                          have d2 : decide (C.prio j < C.prio c) = false := decide_eq_false hp
                          rw [hc]
                          clear hr0 hc hfst hp s7
                          go_wp2_with fail
                          go_quiet (fail)
                          have s8 : St w0 None _ (RL [ArrR wb 4 C.n (fun i => .bool (m i))] N C (some ⟨ib, io, none⟩) cap r sb rp (some ⟨mg, mo, none⟩) cm Ah ch now hr s) := (SQ.out.drewN nq).drop 0 (by simp)
                          have S8 := Lib.hid s8
                          clear s8
                          go_wp2
                          go_roundw
                          case rel => exact ⟨j + 1, by omega, by go_num, by rw [HF.out, HCC.out], S8.out⟩
                          case measure => simp [intOf]; omega
                  · have db : decide (0 < C.burst j) = false := decide_eq_false hb0
                    have HQ := Lib.hid (show q j = true by
                      rw [← HQD.out]
                      simp [hmj, mayB, hlf, dl2, db])
                    clear hmj hrun hlf
                    go_wp2_with fail
                    refine wp_region_in p (by kernel_rfl) (by kernel_rfl) (PI _ SR.out.drew) ?_
                    repeat (go_big_quiet_step ((go_at_call 33; exact in_call (p := p) (RR.out _ (Within.h (p := p) _)))))
                    refine wpQuiet_nil ?_
                    rintro wq ⟨⟨wq2, sq⟩, hwq⟩
                    replace hwq : wq = wq2 := hwq
                    subst hwq
                    have s7 : St w0 None wq (RL [BlkR pb 34 #[.int .i64 (C.prio j), .int .i64 (C.burst j), .int .u64 (C.B j), .int .u64 (C.P j)], ArrR wb 4 C.n (fun i => .bool (m i))] N C (some ⟨ib, io, none⟩) cap r sb rp (some ⟨mg, mo, none⟩) cm Ah ch now hr s) := PO _ sq
                    clear sq u0 u1 u2 u3 SR
                    obtain ⟨p0, p1, p2, p3⟩ := (s7.blk 0 rfl).four
                    have cb0 := (s7.blk 2 rfl).five.1
                    have hfst := fst_bd q C.prio j
                    by_cases hr0 : fst q C.prio j = -1
                    · have HF := Lib.hid (fst_yes (q := q) (prio := C.prio) (k := j) HQ.out (Or.inl hr0))
                      have e0 : decide (fst q C.prio j < 0) = true := decide_eq_true (by omega)
                      generalize fst q C.prio j = rr at *
                      have SQ := Lib.hid s7
                      clear hr0 s7
                      go_wp2_with fail
                      go_quiet (fail)
                      have s8 : St w0 None _ (RL [ArrR wb 4 C.n (fun i => .bool (m i))] N C (some ⟨ib, io, none⟩) cap r sb rp (some ⟨mg, mo, none⟩) cm Ah ch now hr s) := (SQ.out.drewN nq).drop 0 (by simp)
                      have S8 := Lib.hid s8
                      clear s8
                      go_wp2
                      go_roundw
                      case rel => exact ⟨j + 1, by omega, by go_num, by rw [HF.out], S8.out⟩
                      case measure => simp [intOf]; omega
                    · obtain ⟨c, hc⟩ : ∃ c : Nat, fst q C.prio j = c := ⟨(fst q C.prio j).toNat, by omega⟩
                      have hcn : c < C.n := by omega
                      obtain ⟨_, _, ee, m0, _, _, _⟩ := hV.at_ rdm s7.below hcn
                      injection ee with ee; injection ee with ee1 ee2; subst ee1; subst ee2
                      have i2 : (0 : Int) ≤ (c : Int) := by omega
                      have i3 : (c : Int) < (C.n : Int) := by omega
                      have e0 : decide ((c : Int) < 0) = false := decide_eq_false (by omega)
                      have SQ := Lib.hid s7
                      have HCC := Lib.hid hc
                      by_cases hp : C.prio j < C.prio c
                      · have HF := Lib.hid (fst_yes (q := q) (prio := C.prio) (k := j) HQ.out (Or.inr (by rw [hc]; simpa using hp)))
                        have d2 : decide (C.prio j < C.prio c) = true := decide_eq_true hp
                        rw [hc]
                        clear hr0 hc hfst hp s7
                        go_wp2_with fail
                        go_quiet (fail)
                        have s8 : St w0 None _ (RL [ArrR wb 4 C.n (fun i => .bool (m i))] N C (some ⟨ib, io, none⟩) cap r sb rp (some ⟨mg, mo, none⟩) cm Ah ch now hr s) := (SQ.out.drewN nq).drop 0 (by simp)
                        have S8 := Lib.hid s8
                        clear s8
                        go_wp2
                        go_roundw
                        case rel => exact ⟨j + 1, by omega, by go_num, by rw [HF.out], S8.out⟩
                        case measure => simp [intOf]; omega
                      · have HF := Lib.hid (fst_no (q := q) (prio := C.prio) (k := j) (by rw [hc]; rintro ⟨_, h | h⟩; omega; simp at h; omega))
                        have d2 : decide (C.prio j < C.prio c) = false := decide_eq_false hp
                        rw [hc]
                        clear hr0 hc hfst hp s7
                        go_wp2_with fail
                        go_quiet (fail)
                        have s8 : St w0 None _ (RL [ArrR wb 4 C.n (fun i => .bool (m i))] N C (some ⟨ib, io, none⟩) cap r sb rp (some ⟨mg, mo, none⟩) cm Ah ch now hr s) := (SQ.out.drewN nq).drop 0 (by simp)
                        have S8 := Lib.hid s8
                        clear s8
                        go_wp2
                        go_roundw
                        case rel => exact ⟨j + 1, by omega, by go_num, by rw [HF.out, HCC.out], S8.out⟩
                        case measure => simp [intOf]; omega
            · obtain rfl : j = C.n := by omega
              obtain ⟨bst, hbst⟩ : ∃ bst, fst q C.prio C.n = bst := ⟨_, rfl⟩
              rw [hbst]
              have hbd := fst_bd q C.prio C.n
              rw [hbst] at hbd
              have hbe : best C s now m = bst := by rw [← hbst]; unfold best; rw [HQD.out]
              have s4 : St w0 None wr (RL [ArrR wb 4 C.n (fun i => .bool (m i))] N C (some ⟨ib, io, none⟩) cap r sb rp (some ⟨mg, mo, none⟩) cm Ah ch now hr { s with st := stlK s.st m bst 0 }) := by rw [stlK_zero]; exact sr
              have HBE := Lib.hid hbe
              have HQ2 := Lib.hid (fun (h : 0 ≤ bst) => show q bst.toNat = true from fst_q (k := C.n) (by rw [hbst]; omega))
              have hstb := HBS.out.st
              have cb0 := (s4.blk 1 rfl).five.1
              clear sr hbst hbe MT
              go_wp2_with fail
              go_loopw [16] (fun y wx => ∃ i : Nat, i ≤ C.n ∧ y = .int .i64 i ∧ St w0 None wx (RL [ArrR wb 4 C.n (fun i => .bool (m i))] N C (some ⟨ib, io, none⟩) cap r sb rp (some ⟨mg, mo, none⟩) cm Ah ch now hr { s with st := stlK s.st m bst i })) (fun y _ => C.n - (intOf y).toNat)
              case atStart => exact ⟨0, by omega, rfl, s4⟩
              case round =>
                clear s4 cb0
                obtain ⟨i, hi, rfl, sr⟩ := hrel
                by_cases hlt : i < C.n
                · have cm0 := sr.arr_cell 0 rfl hlt
                  have cb0 := (sr.blk 1 rfl).five.1
                  have cb3 := (sr.blk 1 rfl).five.2.2.2.1
                  have cs0 := sr.arr_cell 3 rfl hlt
                  have fs0 := sr.arr_frozen 3 rfl i
                  dsimp only at cs0
                  rw [stlK_at] at cs0
                  have i0 : (0 : Int) ≤ (i : Int) := by omega
                  have i1 : (i : Int) < (C.n : Int) := by omega
                  have hbi := hstb i hlt
                  cases hmi : m i with
                  | true =>
                    rw [hmi] at cm0
                    by_cases hv : (i : Int) = bst
                    · have hS := Lib.hid (show St w0 None wr (RL [ArrR wb 4 C.n (fun i => .bool (m i))] N C (some ⟨ib, io, none⟩) cap r sb rp (some ⟨mg, mo, none⟩) cm Ah ch now hr { s with st := stlK s.st m bst (i + 1) }) by rw [← stlK_no (fun h => h.2 hv)]; exact sr)
                      have d2 : ((i : Int) != bst) = false := by simp [bne, hv]
                      clear hmi hv sr
                      go_wp2
                      go_roundw
                      case rel => exact ⟨i + 1, by omega, by go_num, hS.out⟩
                      case measure => simp [intOf]; omega
                    · have h1 := sr.arr_set 3 rfl hlt (.int .i64 (s.st i + 1))
                      have h2 := h1.arr_like (V' := fun q => .int .i64 (stlK s.st m bst (i + 1) q)) 3 rfl (fun q hq => by rw [← stlK_yes hmi hv]; unfold upd; split <;> rfl)
                      have hS : Hid (St w0 None _ (RL [ArrR wb 4 C.n (fun i => .bool (m i))] N C (some ⟨ib, io, none⟩) cap r sb rp (some ⟨mg, mo, none⟩) cm Ah ch now hr { s with st := stlK s.st m bst (i + 1) })) := Lib.hid h2
                      have d2 : ((i : Int) != bst) = true := by simp [bne, hv]
                      clear hmi hv sr h1 h2
                      go_wp2
                      go_roundw
                      case rel => exact ⟨i + 1, by omega, by go_num, hS.out⟩
                      case measure => simp [intOf]; omega
                  | false =>
                    rw [hmi] at cm0
                    have hS := Lib.hid (show St w0 None wr (RL [ArrR wb 4 C.n (fun i => .bool (m i))] N C (some ⟨ib, io, none⟩) cap r sb rp (some ⟨mg, mo, none⟩) cm Ah ch now hr { s with st := stlK s.st m bst (i + 1) }) by rw [← stlK_no (fun h => by rw [hmi] at h; cases h.1)]; exact sr)
                    clear hmi sr
                    go_wp2
                    go_roundw
                    case rel => exact ⟨i + 1, by omega, by go_num, hS.out⟩
                    case measure => simp [intOf]; omega
                · obtain rfl : i = C.n := by omega
                  have s5 : St w0 None wr (RL [] N C (some ⟨ib, io, none⟩) cap r sb rp (some ⟨mg, mo, none⟩) cm Ah ch now hr { s with st := stl s.st m bst }) := (sr.arr_like (V' := fun q => .int .i64 (stl s.st m bst q)) 3 rfl (fun q hq => by dsimp only; rw [stlK_end hq])).drop 0 (by simp)
                  have HMT := Lib.hid (fun (wz : World) (Ah' : Option Addr) (ch' : Nat) (hr' : List (Int × Int)) (h : St w0 None wz (RL [] N C (some ⟨ib, io, none⟩) cap r sb rp (some ⟨mg, mo, none⟩) cm Ah' ch' now hr' { s with st := stl s.st m bst })) (j : Nat) (hj : j < C.n) => show wz.cell? ⟨mg, mo + j, none⟩ = some (.pointer (some ⟨rp j, 0, none⟩)) by
                    obtain ⟨A', cap', hv, _, _, _, hcell⟩ := h.lis_cells 1 rfl
                    injection hv with e1 _ e2
                    obtain ⟨g, off, e3, hcc⟩ := hcell.resolve_left (by omega)
                    rw [← e1] at e3
                    injection e3 with e3; injection e3 with e4 e5; subst e4; subst e5
                    exact hcc _ _ (mcs_at hj))
                  obtain ⟨iH, hiH, hzH, hsH, hbH⟩ := info_parts Try.infoHad
                  have hRR := HR.out
                  have hbee := HBE.out
                  clear sr HR HBE
                  rcases hRR with ⟨h, _⟩ | ⟨_, h, _⟩ | ⟨_, _, _, hb, rfl, rfl, hs'⟩ | ⟨_, _, _, b, hbn, hb, rfl, rfl, hs'⟩
                  · exact absurd hl h
                  · exact absurd ⟨rfl, hx⟩ h
                  · obtain rfl : bst = -1 := by rw [← hbee]; exact hb
                    have HS' := Lib.hid hs'
                    clear hbee hb hs' HQ2 HMT
                    have cb0 := (s5.blk 0 rfl).five.1
                    have cb4 := (s5.blk 0 rfl).five.2.2.2.2
                    have s6 := s5.alloc (.cells #[.int .u64 now, .int .i64 (-1)] 84)
                    have hl6 := s6.lis 3 rfl
                    have hr6 := rds_box2 wr 84 (.int .u64 now) (.int .i64 (-1))
                    clear s5
                    go_wp2_with (at_builtin; refine wpList_lis rfl (.tmp 189) (.tmp 193) 46 rfl 84 iH (.agg #[.int .u64 0, .int .i64 0]) 2 16 Try.underlying46 hiH hzH hsH hbH rfl (by decide) _ _ _ rfl hl6 (some ⟨wr.heap.size, 0, none⟩) 1 1 [.int .u64 now, .int .i64 (-1)] rfl hr6 (by simp [Value.oneCell']) (by unfold maxLen; omega) (by omega) ?_; intro B8 cap8 w8 hl8 hg8 hat8; have s8 := s6.lis_put 3 rfl hl8 hg8 hat8; have cb8 := (s8.blk 0 rfl).five.2.2.2.2; have fb8 := (s8.blk 0 rfl).frozen 4; have s9 : St w0 None (w8.setCell ⟨r, 4, none⟩ (.slice B8 (hr.length + 1) cap8)) (RL [] N C (some ⟨ib, io, none⟩) cap r sb rp (some ⟨mg, mo, none⟩) cm B8 cap8 now ((now, -1) :: hr) { s with st := stl s.st m (-1) }) := s8.set_ 0 rfl 4 (.slice B8 (hr.length + 1) cap8); have cm9 := (s9.blk 0 rfl).five.2.2.1; have S9 := Lib.hid s9; clear hl8 hg8 hat8 s8 s9 s6 hl6 hr6)
                    go_ret2
                    exact ⟨rfl, B8, cap8, by rw [HS'.out]; exact S9.out⟩
                  · obtain rfl : bst = (b : Int) := by rw [← hbee]; exact hb
                    have HS' := Lib.hid hs'
                    have hq := HQ2.out (by omega)
                    rw [show ((b : Int)).toNat = b by omega, ← HQD.out] at hq
                    simp only [Bool.and_eq_true] at hq
                    have hleft : 0 < C.left s.ws b now := by have := hq.2; unfold mayB at this; simp at this; exact this.2
                    have i0 : (0 : Int) ≤ (b : Int) := by omega
                    have i1 : (b : Int) < (C.n : Int) := by omega
                    have e0 : decide ((b : Int) < 0) = false := decide_eq_false (by omega)
                    clear hbee hb hs' HQ2 hq
                    have cb0 := (s5.blk 0 rfl).five.1
                    have cb4 := (s5.blk 0 rfl).five.2.2.2.2
                    have s6 := s5.alloc (.cells #[.int .u64 now, .int .i64 ((b : Int))] 84)
                    have hl6 := s6.lis 3 rfl
                    have hr6 := rds_box2 wr 84 (.int .u64 now) (.int .i64 ((b : Int)))
                    clear s5
                    go_wp2_with (at_builtin; refine wpList_lis rfl (.tmp 189) (.tmp 193) 46 rfl 84 iH (.agg #[.int .u64 0, .int .i64 0]) 2 16 Try.underlying46 hiH hzH hsH hbH rfl (by decide) _ _ _ rfl hl6 (some ⟨wr.heap.size, 0, none⟩) 1 1 [.int .u64 now, .int .i64 ((b : Int))] rfl hr6 (by simp [Value.oneCell']) (by unfold maxLen; omega) (by omega) ?_; intro B8 cap8 w8 hl8 hg8 hat8; have s8 := s6.lis_put 3 rfl hl8 hg8 hat8; have cb8 := (s8.blk 0 rfl).five.2.2.2.2; have fb8 := (s8.blk 0 rfl).frozen 4; have s9 : St w0 None (w8.setCell ⟨r, 4, none⟩ (.slice B8 (hr.length + 1) cap8)) (RL [] N C (some ⟨ib, io, none⟩) cap r sb rp (some ⟨mg, mo, none⟩) cm B8 cap8 now ((now, (b : Int)) :: hr) { s with st := stl s.st m ((b : Int)) }) := s8.set_ 0 rfl 4 (.slice B8 (hr.length + 1) cap8); have cm9 := (s9.blk 0 rfl).five.2.2.1; have cx9 := HMT.out _ _ _ _ s9 b hbn;have S9 := Lib.hid s9; clear hl8 hg8 hat8 s8 s9 s6 hl6 hr6)
                    refine (rb_take S9.out hbn hn0 hl (by have := HBS.out.len b hbn; show (s.ws b).length ≤ 200; omega) hleft).mono ?_
                    rintro e w10 ⟨rfl, s10⟩
                    have S10 := Lib.hid s10
                    clear s10
                    go_wp2_with fail
                    go_ret2
                    exact ⟨rfl, B8, cap8, by rw [HS'.out]; exact S10.out⟩

end
end Go.Proofs.Ytabocojmobbpaaa
