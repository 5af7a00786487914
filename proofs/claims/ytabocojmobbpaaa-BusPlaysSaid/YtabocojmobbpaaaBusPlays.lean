/-
  For all masters, phases and scripts BusPlays answers true, and changes nothing: who may be a master, who has each slot, who is stalled, and the row, are what the document says. No condition.
-/
import Derived.Test.YtabocojmobbpaaaRows
import Derived.Test.YtabocojmobbpaaaFr
import Derived.Test.YtabocojmobbpaaaBusX
import Derived.Test.YtabocojmobbpaaaBusW
import Derived.Test.YtabocojmobbpaaaShareR
import Derived.Test.YtabocojmobbpaaaOpen
import Derived.LoopTactic
namespace Go.Proofs.Ytabocojmobbpaaa.busPlays
open Go.ChangeShapes Go.WideShapes Go.ChangeAt Go.RowKit
set_option linter.unusedVariables false
theorem own : ownKnob Try.prog.godebug = none := by kernel_rfl
theorem laid : laidOutB Try.prog = true := by kernel_rfl
set_option maxRecDepth 100000
set_option maxHeartbeats 1000000
attribute [local go_sem ↓] Go.wp_at_zero Go.wp_at_succ
theorem rdm_stay {w w' : World} {A : Option Addr} {n m : Nat} {V : Nat → Nat → Value} (rd : RdM w A n m V) (hw : Below w.heap.size w w') : RdM w' A n m V := fun h => by
  obtain ⟨b, off, e, hlt, hc⟩ := rd h
  exact ⟨b, off, e, Nat.lt_of_lt_of_le hlt hw.size, fun j hj i hi => (hw.cell (p := ⟨b, off + (j * m + i), none⟩) hlt).trans (hc j hj i hi)⟩
theorem rd_stay {w w' : World} {A : Option Addr} {n : Nat} {f : Nat → Value} (rd : Rd w A n f) (hw : Below w.heap.size w w') : Rd w' A n f := fun h => by
  obtain ⟨b, off, e, hlt, hc⟩ := rd h
  exact ⟨b, off, e, Nat.lt_of_lt_of_le hlt hw.size, fun j hj => (hw.cell (p := ⟨b, off + j, none⟩) hlt).trans (hc j hj)⟩
theorem rd_of {w : World} {A : Option Addr} {n : Nat} {V : Nat → Nat → Value} (rd : RdM w A n 1 V) (g : ∀ i, i < n → ∃ z, V i 0 = .int .i64 z) : Rd w A n (fun i => .int .i64 (intOf (V i 0))) := fun h => by
  obtain ⟨b, off, e, hlt, hc⟩ := rd h
  refine ⟨b, off, e, hlt, fun j hj => ?_⟩
  obtain ⟨z, hz⟩ := g j hj
  have := hc j hj 0 (by omega)
  rw [Nat.mul_one, Nat.add_zero, hz] at this
  show w.cell? _ = some (Value.int .i64 (intOf (V j 0)))
  rw [hz]; exact this
theorem rnew2 {w0 w : World} {S0 : Nat → Prop} {L : List Res} {A : Option Addr} {cap n : Nat} {ph : Int} {C : BC} {V : Nat → Nat → Value} (hC : C.OK) (hn : C.n = n) (hph : C.ph = ph) (hV : MV C V) (H : St w0 S0 w L) (rd : RdM w A n 4 V) :
    Calls Try.prog 14 #[.slice A n cap, .int .u64 ph] w fun e w' => ∃ r sb rp, e = .returned (.pointer (some ⟨r, 0, none⟩)) ∧ St w0 S0 w' (L ++ [RBusR C A cap r sb rp 0 (bs0 ph)]) := by
  subst hn; subst hph; exact RNew_o H hC rd hV
theorem may_any (p u B P : Int) : ∃ x : Bool, (∀ w, Calls Try.prog 11 #[.agg #[.int .i64 p, .int .i64 u, .int .u64 B, .int .u64 P]] w fun e w' => e = .returned (.bool x) ∧ Below w.heap.size w w') ∧
    (∀ w, Calls Try.prog 12 #[.agg #[.int .i64 p, .int .i64 u, .int .u64 B, .int .u64 P]] w fun e w' => e = .returned (.bool x) ∧ Below w.heap.size w w') := by
  by_cases h : okM p u B P
  · exact ⟨true, fun w => bM_yes p u B P w h, fun w => rbM_yes p u B P w h⟩
  · exact ⟨false, fun w => bM_no p u B P w h, fun w => rbM_no p u B P w h⟩
theorem bnew_no {A : Option Addr} {cap : Nat} {ph : Int} {C : BC} {V : Nat → Nat → Value} (w : World) (rd : RdM w A C.n 4 V) (hV : MV C V) (h : ¬ (1 ≤ C.n ∧ C.n ≤ 16) ∨ ¬ ∀ i, i < C.n → okM (C.prio i) (C.burst i) (C.B i) (C.P i)) :
    Calls Try.prog 10 #[.slice A C.n cap, .int .u64 ph] w fun e w' => e = .returned (.tuple #[.pointer none, .int .i64 1]) ∧ Below w.heap.size w w' := by
  by_cases hr : 1 ≤ C.n ∧ C.n ≤ 16
  · exact bnew_bad w hr.1 hr.2 rd hV (h.resolve_left (fun h => h hr))
  · exact bnew_len w hr
theorem stall_cells {w0 w : World} {S0 : Nat → Prop} {N : List Res} {C : BC} {A : Option Addr} {cap r sb : Nat} {rp : Nat → Nat} {q : Nat} {s : BS} (H : St w0 S0 w (RBusR C A cap r sb rp q s :: N)) : w.cell? ⟨r, 3, none⟩ = some (.slice (some ⟨sb, 0, none⟩) C.n C.n) ∧ ∀ i, i < C.n → w.cell? ⟨sb, i, none⟩ = some (.int .i64 (s.st i)) := by
  obtain ⟨hr, Am, cm, Ah, ch, ho, hlen, s1⟩ := rb_open H
  exact ⟨(s1.blk 0 rfl).five.2.2.2.1, fun i hi => s1.arr_cell 2 rfl hi⟩
theorem walk (A : Option Addr) (n cap : Nat) (V : Nat → Nat → Value) (ph : Int) (A' : Option Addr) (q cap1 : Nat) (V1 : Nat → Nat → Value) (w : World) (bph : 0 ≤ ph ∧ ph ≤ 18446744073709551615) (hm : n ≤ maxLen) (hm1 : q ≤ maxLen) (rd : RdM w A n 4 V) (hV : MV (bcOf n V ph) V)
    (rd1 : RdM w A' q 2 V1) (f0 : ∀ j, j < q → ∃ z, V1 j 0 = .int .u64 z ∧ (Lit.int .u64 z).wf = true) (hL : ∀ j, j < q → ∃ (B : Option Addr) (m c : Nat) (f : Nat → Int), V1 j 1 = .slice B m c ∧ m ≤ maxLen ∧ Rd w B m (fun i => .int .i64 (f i))) :
    Calls Try.prog 3 #[.slice A n cap, .int .u64 ph, .slice A' q cap1] w fun r w' => r = .returned (.bool true) ∧ Below w.heap.size w w' := by
  by_cases h40 : 40 < n
  · have d0 : decide (40 < (n : Int)) = true := decide_eq_true (by omega)
    go_enter Try.func3, Try.ntmps3
    go_wp2_with fail
    refine (bawake _).mono ?_
    rintro e w2 ⟨rfl, hw2⟩
    go_wp2_with fail
    go_ret
    exact ⟨rfl, hw2⟩
  have d0 : decide (40 < (n : Int)) = false := decide_eq_false (by omega)
  go_enter Try.func3, Try.ntmps3
  go_wp2_with fail
  refine (bawake _).mono ?_
  rintro e w2 ⟨rfl, hw2⟩
  have s2 : St w None w2 [] := (St.begin w).stay hw2
  have rdw : RdM w2 A (bcOf n V ph).n 4 V := rdm_stay rd hw2
  by_cases hok : (1 ≤ (bcOf n V ph).n ∧ (bcOf n V ph).n ≤ 16) ∧ ∀ i, i < (bcOf n V ph).n → okM ((bcOf n V ph).prio i) ((bcOf n V ph).burst i) ((bcOf n V ph).B i) ((bcOf n V ph).P i)
  · obtain ⟨⟨g1, g16⟩, gok⟩ := hok
    have HG := Lib.hid gok
    by_cases hp : ph < 4611686018427387904
    · have HC := Lib.hid (bc_ok (C := bcOf n V ph) (ph := ph) g1 g16 gok rfl ⟨bph.1, hp⟩)
      have dp : decide (4611686018427387904 ≤ ph) = false := decide_eq_false (by omega)
      have g1 : 1 ≤ n := g1
      have g16 : n ≤ 16 := g16
      clear gok
      go_wp2_with fail
      refine (bnew2 (n := n) (ph := ph) HC.out rfl rfl hV s2 rdw).mono ?_
      rintro e w3 ⟨b, g, mp, rfl, s3⟩
      obtain ⟨LL, hLL⟩ : ∃ LL, LL = ([] ++ [BusP (bcOf n V ph) b g mp (bs0 ph)] : List Res) := ⟨_, rfl⟩
      rw [← hLL] at s3
      have HLL := Lib.hid hLL
      clear hLL
      go_wp2_with fail
      go_loopw [9] (fun i wx => ∃ k : Nat, k ≤ n ∧ i = .int .i64 k ∧ St w None wx LL) (fun i _ => n - (intOf i).toNat)
      case atStart => exact ⟨0, by omega, rfl, s3⟩
      case round =>
        clear s3
        obtain ⟨k, hk, rfl, sr⟩ := hrel
        by_cases hlt : k < n
        · obtain ⟨ib, off, rfl, _, _, _, _⟩ := hV.at_ rd sr.below hlt
          haveI : Nonempty (Within (fun wx => St w None wx LL)) := ⟨⟨_, sr⟩⟩
          have zz : ∀ u : Within (fun wx => St w None wx LL), u.w.cell? ⟨ib, off + k * 4, none⟩ = some (.int .i64 ((bcOf n V ph).prio k)) ∧ u.w.cell? ⟨ib, off + k * 4 + 1, none⟩ = some (.int .i64 ((bcOf n V ph).burst k)) ∧ u.w.cell? ⟨ib, off + k * 4 + 2, none⟩ = some (.int .u64 ((bcOf n V ph).B k)) ∧ u.w.cell? ⟨ib, off + k * 4 + 3, none⟩ = some (.int .u64 ((bcOf n V ph).P k)) := fun u => by
            obtain ⟨_, _, e, h0, h1, h2, h3⟩ := hV.at_ rd u.h.below hlt
            injection e with e; injection e with e1 e2; subst e1; subst e2; exact ⟨h0, h1, h2, h3⟩
          have z1 := fun u => (zz u).1
          have z2 := fun u => (zz u).2.1
          have z3 := fun u => (zz u).2.2.1
          have z4 := fun u => (zz u).2.2.2
          have i0 : (0 : Int) ≤ (k : Int) := by omega
          have i1 : (k : Int) < (n : Int) := by omega
          obtain ⟨x, hM1, hM2⟩ := may_any ((bcOf n V ph).prio k) ((bcOf n V ph).burst k) ((bcOf n V ph).B k) ((bcOf n V ph).P k)
          have HM1 := Lib.hid hM1
          have HM2 := Lib.hid hM2
          have xx : (x != x) = false := by simp
          have SR := Lib.hid sr
          clear sr zz hM1 hM2
          go_wp2_with fail
          refine wp_region_in (fun wx => St w None wx LL) (by kernel_rfl) (by kernel_rfl) SR.out.drew ?_
          repeat (go_big_quiet_step ((first | (go_at_call 11; exact in_call (p := fun wx => St w None wx LL) (looks (HM1.out _) (Within.h (p := fun wx => St w None wx LL) _))) | (go_at_call 12; exact in_call (p := fun wx => St w None wx LL) (looks (HM2.out _) (Within.h (p := fun wx => St w None wx LL) _))))))
          refine wpQuiet_nil ?_
          rintro _ ⟨⟨wq, sq⟩, rfl⟩
          go_wp2
          go_roundw
          case rel => exact ⟨k + 1, by omega, by go_num, sq⟩
          case measure => simp [intOf]; omega
        · obtain rfl : k = n := by omega
          have hLL := HLL.out
          subst hLL
          have s4 : St w None wr [BusP (bcOf k V ph) b g mp (bs0 ph)] := sr
          have rdw4 : RdM wr A (bcOf k V ph).n 4 V := rdm_stay rd s4.below
          clear sr
          obtain ⟨x, hx1, hx2, hxc⟩ := all_any (C := bcOf k V ph) (cap := cap) wr hm rdw4 hV
          obtain rfl : x = true := by
            cases x with
            | true => rfl
            | false =>
              rcases hx2 rfl with h2 | h2
              · exact absurd ⟨g1, g16⟩ h2
              · exact absurd HG.out h2
          clear hx1 hx2
          have H0 := Lib.hid (bs0_ok HC.out)
          go_wp2_with fail
          refine hxc.mono ?_
          rintro e w4 ⟨rfl, hw4⟩
          have s5 := s4.stay hw4
          have rdw5 : RdM w4 A k 4 V := rdm_stay rd s5.below
          clear hxc s4 rdw4
          go_wp2_with fail
          refine (rnew2 (n := k) (ph := ph) HC.out rfl rfl hV s5 rdw5).mono ?_
          rintro e w5 ⟨r, sb, rp, rfl, s6'⟩
          have s6 : St w None w5 [RBusR (bcOf k V ph) A cap r sb rp 0 (bs0 ph), BusP (bcOf k V ph) b g mp (bs0 ph)] := St.comm (A := [BusP (bcOf k V ph) b g mp (bs0 ph)]) s6'
          clear s5 s6' rdw5
          go_wp2_with fail
          go_loopw [11, 12] (fun nw i wr => ∃ (d : Nat) (now : Int) (s : BS), d ≤ q ∧ d ≤ 120 ∧ i = .int .i64 d ∧ nw = .int .u64 now ∧ s.OK (bcOf k V ph) d ∧ St w None wr [RBusR (bcOf k V ph) A cap r sb rp d s, BusP (bcOf k V ph) b g mp s]) (fun _ i _ => q - (intOf i).toNat)
          case atStart => exact ⟨0, ph, _, by omega, by omega, rfl, rfl, H0.out, s6⟩
          case round =>
            clear s6
            obtain ⟨d, now, s, hd, hd2, rfl, rfl, hO, sr⟩ := hrel
            have HO := Lib.hid hO
            clear hO
            by_cases hlt : d < q
            · by_cases hlt2 : d < 120
              · obtain ⟨z, hz, wz⟩ := f0 d hlt
                obtain ⟨Aw, nw, cw, fw, hv, hmw, rdw⟩ := hL d hlt
                have bz := bounds_u64 wz
                obtain ⟨ib, off, rfl, e0, e1⟩ := rd1.at2 sr.below hlt
                rw [hz] at e0; rw [hv] at e1
                obtain ⟨x, hx⟩ : ∃ x, IntKind.u64.wrap (now + z) = x := ⟨_, rfl⟩
                have bx : 0 ≤ x := by rw [← hx]; unfold IntKind.wrap; simp [IntKind.signed, IntKind.bits]; omega
                have sb2 : St w None _ [_, _, _] := sr.box 40 #[.int .u64 z, .slice Aw nw cw]
                obtain ⟨q0, q1⟩ := (sb2.blk 2 rfl).two
                have rdw2 := rd_stay rdw sb2.below
                clear hz hv wz sr
                by_cases hw40 : 40 < nw
                · have d1 : decide (40 < (nw : Int)) = true := decide_eq_true (by omega)
                  go_wp2_with fail
                  go_ret
                  exact ⟨rfl, sb2.below⟩
                · have d1 : decide (40 < (nw : Int)) = false := decide_eq_false (by omega)
                  obtain ⟨v, f, s', hR⟩ := slotR_ex (bcOf k V ph) s x (okB nw fw (bcOf k V ph).n) (wantB nw fw)
                  have HO2 := Lib.hid (hR.next HO.out)
                  have HR := Lib.hid hR
                  clear hR
                  obtain ⟨db, hdb⟩ : ∃ db, wr.heap.size = db := ⟨_, rfl⟩
                  go_wp2_with fail
                  refine (Slot_o sb2 1 rfl HC.out HO.out (by omega) bx hmw rdw2 HR.out).mono ?_
                  rintro e w6 ⟨rfl, s6'⟩
                  have s6 : St w None w6 [RBusR (bcOf k V ph) A cap r sb rp d s, BusP (bcOf k V ph) b g mp s', BlkR wr.heap.size 40 #[.int .u64 z, .slice Aw nw cw]] := s6'
                  clear s6' sb2 q0 q1 rdw2
                  rw [hdb] at s6
                  obtain ⟨q0, q1⟩ := (s6.blk 2 rfl).two
                  have rdw6 := rd_stay rdw s6.below
                  go_wp2_with fail
                  refine (RSlot_o s6 HC.out rd hV HO.out (by omega) (by omega) bx hmw rdw6 HR.out).mono ?_
                  rintro e w7 ⟨rfl, s7⟩
                  clear s6 q0 q1 rdw6
                  go_wp2_with fail
                  refine (row_o s7 1 rfl).mono ?_
                  rintro e w8 ⟨rfl, s8⟩
                  clear s7
                  go_wp2_with fail
                  refine (rrow_o (by omega) s8 HC.out ⟨HO2.out.next.2, HO2.out.next.1, HO2.out.who.1⟩).mono ?_
                  rintro e w9 ⟨rfl, s9⟩
                  clear s8
                  obtain ⟨wh, hwh⟩ : ∃ wh, s'.who = wh := ⟨_, rfl⟩
                  obtain ⟨ro, hro⟩ : ∃ ro, s'.row = ro := ⟨_, rfl⟩
                  have n1 : (v != v) = false := by simp
                  have n2 : (f != f) = false := by simp
                  have n3 : (wh != wh) = false := by simp
                  have n4 : (ro != ro) = false := by simp
                  rw [hwh, hro]
                  clear hwh hro
                  go_wp2_with fail
                  go_loopw [22] (fun y wx => ∃ c : Nat, c ≤ k + 2 ∧ y = .int .i64 ((c : Int) - 1) ∧ St w None wx [RBusR (bcOf k V ph) A cap r sb rp (d + 1) s', BusP (bcOf k V ph) b g mp s', BlkR db 40 #[.int .u64 z, .slice Aw nw cw]]) (fun y _ => k + 2 - (intOf y + 1).toNat)
                  case atStart => exact ⟨0, by omega, rfl, s9⟩
                  case round =>
                    clear s9 n1 n2 n3 n4
                    obtain ⟨c, hc, rfl, sr⟩ := hrel
                    obtain ⟨y, hy⟩ : ∃ y : Int, (c : Int) - 1 = y := ⟨_, rfl⟩
                    rw [hy]
                    by_cases hcn : c < k + 2
                    · have dy : decide (y ≤ (k : Int)) = true := decide_eq_true (by omega)
                      by_cases hin : 0 ≤ y ∧ y < k
                      · obtain ⟨i, rfl⟩ : ∃ i : Nat, y = i := ⟨y.toNat, by omega⟩
                        have hik : i < k := by omega
                        obtain ⟨c3, ci0⟩ := stall_cells sr
                        have ci := ci0 i hik
                        clear ci0
                        have i0 : (0 : Int) ≤ (i : Int) := by omega
                        have i1 : (i : Int) < (k : Int) := by omega
                        have d2 : decide (0 ≤ (i : Int)) = true := decide_eq_true i0
                        have d3 : decide ((i : Int) < (k : Int)) = true := decide_eq_true i1
                        obtain ⟨u, hu⟩ : ∃ u, s'.st i = u := ⟨_, rfl⟩
                        have uu : (u != u) = false := by simp
                        have HS := Lib.hid (stalls_yes sr 1 rfl HC.out i hik)
                        rw [hu] at ci HS
                        have HI := Lib.hid hy
                        clear hu hin hy sr
                        go_wp2_with fail
                        refine HS.out.mono ?_
                        rintro e wz ⟨rfl, sz⟩
                        go_wp2_with fail
                        go_roundw
                        case rel => exact ⟨c + 1, by omega, by rw [show (i : Int) = c - 1 from HI.out.symm]; go_num, sz⟩
                        case measure => have := HI.out; simp [intOf]; omega
                      · have HS := Lib.hid (stalls_no sr 1 rfl HC.out y hin)
                        have HI := Lib.hid hy
                        have hb : -1 ≤ y ∧ y ≤ 16 := by omega
                        clear sr
                        by_cases hy0 : 0 ≤ y
                        · have d2 : decide (0 ≤ y) = true := decide_eq_true hy0
                          have d3 : decide (y < (k : Int)) = false := decide_eq_false (by omega)
                          clear hin hy hy0
                          go_wp2_with fail
                          refine HS.out.mono ?_
                          rintro e wz ⟨rfl, sz⟩
                          go_wp2_with fail
                          go_roundw
                          case rel => exact ⟨c + 1, by omega, by rw [show y = c - 1 from HI.out.symm]; go_num, sz⟩
                          case measure => have := HI.out; simp [intOf]; omega
                        · have d2 : decide (0 ≤ y) = false := decide_eq_false hy0
                          clear hin hy hy0
                          go_wp2_with fail
                          refine HS.out.mono ?_
                          rintro e wz ⟨rfl, sz⟩
                          go_wp2_with fail
                          go_roundw
                          case rel => exact ⟨c + 1, by omega, by rw [show y = c - 1 from HI.out.symm]; go_num, sz⟩
                          case measure => have := HI.out; simp [intOf]; omega
                    · have dy : decide (y ≤ (k : Int)) = false := decide_eq_false (by omega)
                      have s10 : St w None wr [RBusR (bcOf k V ph) A cap r sb rp (d + 1) s', BusP (bcOf k V ph) b g mp s'] := St.take sr 2
                      clear sr
                      go_wp2
                      go_roundw
                      case rel => exact ⟨d + 1, x, s', by omega, by omega, by go_num, rfl, HO2.out, s10⟩
                      case measure => simp [intOf]; omega
              · go_wp2
                go_ret
                exact ⟨rfl, sr.below⟩
            · go_wp2
              go_ret
              exact ⟨rfl, sr.below⟩
    · have dp : decide (4611686018427387904 ≤ ph) = true := decide_eq_true (by omega)
      have NW := Lib.hid (bnew_hor (A := A) (cap := cap) w2 g1 g16 rdw hV gok hp)
      have g1 : 1 ≤ n := g1
      have g16 : n ≤ 16 := g16
      clear gok
      go_wp2_with fail
      refine NW.out.mono ?_
      rintro e w3 ⟨rfl, hw3⟩
      obtain ⟨LL, hLL⟩ : ∃ LL, LL = ([] : List Res) := ⟨_, rfl⟩
      have s3 := s2.stay hw3
      rw [← hLL] at s3
      clear hLL
      go_wp2_with fail
      go_loopw [9] (fun i wx => ∃ k : Nat, k ≤ n ∧ i = .int .i64 k ∧ St w None wx LL) (fun i _ => n - (intOf i).toNat)
      case atStart => exact ⟨0, by omega, rfl, s3⟩
      case round =>
        clear s3
        obtain ⟨k, hk, rfl, sr⟩ := hrel
        by_cases hlt : k < n
        · obtain ⟨ib, off, rfl, _, _, _, _⟩ := hV.at_ rd sr.below hlt
          haveI : Nonempty (Within (fun wx => St w None wx LL)) := ⟨⟨_, sr⟩⟩
          have zz : ∀ u : Within (fun wx => St w None wx LL), u.w.cell? ⟨ib, off + k * 4, none⟩ = some (.int .i64 ((bcOf n V ph).prio k)) ∧ u.w.cell? ⟨ib, off + k * 4 + 1, none⟩ = some (.int .i64 ((bcOf n V ph).burst k)) ∧ u.w.cell? ⟨ib, off + k * 4 + 2, none⟩ = some (.int .u64 ((bcOf n V ph).B k)) ∧ u.w.cell? ⟨ib, off + k * 4 + 3, none⟩ = some (.int .u64 ((bcOf n V ph).P k)) := fun u => by
            obtain ⟨_, _, e, h0, h1, h2, h3⟩ := hV.at_ rd u.h.below hlt
            injection e with e; injection e with e1 e2; subst e1; subst e2; exact ⟨h0, h1, h2, h3⟩
          have z1 := fun u => (zz u).1
          have z2 := fun u => (zz u).2.1
          have z3 := fun u => (zz u).2.2.1
          have z4 := fun u => (zz u).2.2.2
          have i0 : (0 : Int) ≤ (k : Int) := by omega
          have i1 : (k : Int) < (n : Int) := by omega
          obtain ⟨x, hM1, hM2⟩ := may_any ((bcOf n V ph).prio k) ((bcOf n V ph).burst k) ((bcOf n V ph).B k) ((bcOf n V ph).P k)
          have HM1 := Lib.hid hM1
          have HM2 := Lib.hid hM2
          have xx : (x != x) = false := by simp
          have SR := Lib.hid sr
          clear sr zz hM1 hM2
          go_wp2_with fail
          refine wp_region_in (fun wx => St w None wx LL) (by kernel_rfl) (by kernel_rfl) SR.out.drew ?_
          repeat (go_big_quiet_step ((first | (go_at_call 11; exact in_call (p := fun wx => St w None wx LL) (looks (HM1.out _) (Within.h (p := fun wx => St w None wx LL) _))) | (go_at_call 12; exact in_call (p := fun wx => St w None wx LL) (looks (HM2.out _) (Within.h (p := fun wx => St w None wx LL) _))))))
          refine wpQuiet_nil ?_
          rintro _ ⟨⟨wq, sq⟩, rfl⟩
          go_wp2
          go_roundw
          case rel => exact ⟨k + 1, by omega, by go_num, sq⟩
          case measure => simp [intOf]; omega
        · obtain rfl : k = n := by omega
          have rdw4 : RdM wr A (bcOf k V ph).n 4 V := rdm_stay rd sr.below
          obtain ⟨x, hx1, hx2, hxc⟩ := all_any (C := bcOf k V ph) (cap := cap) wr hm rdw4 hV
          obtain rfl : x = true := by
            cases x with
            | true => rfl
            | false =>
              rcases hx2 rfl with h2 | h2
              · exact absurd ⟨g1, g16⟩ h2
              · exact absurd HG.out h2
          clear hx1 hx2
          go_wp2_with fail
          refine hxc.mono ?_
          rintro e w4 ⟨rfl, hw4⟩
          go_wp2_with fail
          go_ret
          exact ⟨rfl, (sr.stay hw4).below⟩
  · have hno : ¬ (1 ≤ (bcOf n V ph).n ∧ (bcOf n V ph).n ≤ 16) ∨ ¬ ∀ i, i < (bcOf n V ph).n → okM ((bcOf n V ph).prio i) ((bcOf n V ph).burst i) ((bcOf n V ph).B i) ((bcOf n V ph).P i) := by
      by_cases h1 : 1 ≤ (bcOf n V ph).n ∧ (bcOf n V ph).n ≤ 16
      · exact Or.inr fun h2 => hok ⟨h1, h2⟩
      · exact Or.inl h1
    have NW := Lib.hid (bnew_no (A := A) (cap := cap) (ph := ph) w2 rdw hV hno)
    have HN := Lib.hid hok
    clear hok hno
    go_wp2_with fail
    refine NW.out.mono ?_
    rintro e w3 ⟨rfl, hw3⟩
    obtain ⟨LL, hLL⟩ : ∃ LL, LL = ([] : List Res) := ⟨_, rfl⟩
    have s3 := s2.stay hw3
    rw [← hLL] at s3
    clear hLL
    go_wp2_with fail
    go_loopw [9] (fun i wx => ∃ k : Nat, k ≤ n ∧ i = .int .i64 k ∧ St w None wx LL) (fun i _ => n - (intOf i).toNat)
    case atStart => exact ⟨0, by omega, rfl, s3⟩
    case round =>
      clear s3
      obtain ⟨k, hk, rfl, sr⟩ := hrel
      by_cases hlt : k < n
      · obtain ⟨ib, off, rfl, _, _, _, _⟩ := hV.at_ rd sr.below hlt
        haveI : Nonempty (Within (fun wx => St w None wx LL)) := ⟨⟨_, sr⟩⟩
        have zz : ∀ u : Within (fun wx => St w None wx LL), u.w.cell? ⟨ib, off + k * 4, none⟩ = some (.int .i64 ((bcOf n V ph).prio k)) ∧ u.w.cell? ⟨ib, off + k * 4 + 1, none⟩ = some (.int .i64 ((bcOf n V ph).burst k)) ∧ u.w.cell? ⟨ib, off + k * 4 + 2, none⟩ = some (.int .u64 ((bcOf n V ph).B k)) ∧ u.w.cell? ⟨ib, off + k * 4 + 3, none⟩ = some (.int .u64 ((bcOf n V ph).P k)) := fun u => by
          obtain ⟨_, _, e, h0, h1, h2, h3⟩ := hV.at_ rd u.h.below hlt
          injection e with e; injection e with e1 e2; subst e1; subst e2; exact ⟨h0, h1, h2, h3⟩
        have z1 := fun u => (zz u).1
        have z2 := fun u => (zz u).2.1
        have z3 := fun u => (zz u).2.2.1
        have z4 := fun u => (zz u).2.2.2
        have i0 : (0 : Int) ≤ (k : Int) := by omega
        have i1 : (k : Int) < (n : Int) := by omega
        obtain ⟨x, hM1, hM2⟩ := may_any ((bcOf n V ph).prio k) ((bcOf n V ph).burst k) ((bcOf n V ph).B k) ((bcOf n V ph).P k)
        have HM1 := Lib.hid hM1
        have HM2 := Lib.hid hM2
        have xx : (x != x) = false := by simp
        have SR := Lib.hid sr
        clear sr zz hM1 hM2
        go_wp2_with fail
        refine wp_region_in (fun wx => St w None wx LL) (by kernel_rfl) (by kernel_rfl) SR.out.drew ?_
        repeat (go_big_quiet_step ((first | (go_at_call 11; exact in_call (p := fun wx => St w None wx LL) (looks (HM1.out _) (Within.h (p := fun wx => St w None wx LL) _))) | (go_at_call 12; exact in_call (p := fun wx => St w None wx LL) (looks (HM2.out _) (Within.h (p := fun wx => St w None wx LL) _))))))
        refine wpQuiet_nil ?_
        rintro _ ⟨⟨wq, sq⟩, rfl⟩
        go_wp2
        go_roundw
        case rel => exact ⟨k + 1, by omega, by go_num, sq⟩
        case measure => simp [intOf]; omega
      · obtain rfl : k = n := by omega
        have rdw4 : RdM wr A (bcOf k V ph).n 4 V := rdm_stay rd sr.below
        obtain ⟨x, hx1, hx2, hxc⟩ := all_any (C := bcOf k V ph) (cap := cap) wr hm rdw4 hV
        obtain rfl : x = false := by
          cases x with
          | false => rfl
          | true =>
            obtain ⟨h1, h2, h3⟩ := hx1 rfl
            exact absurd ⟨⟨h1, h2⟩, h3⟩ HN.out
        clear hx1 hx2
        go_wp2_with fail
        refine hxc.mono ?_
        rintro e w4 ⟨rfl, hw4⟩
        go_wp2_with fail
        go_ret
        exact ⟨rfl, (sr.stay hw4).below⟩

set_option maxRecDepth 100000 in
theorem lifted (os : Os) (started : os.Started) (H : Type) (enc : TypeId × Value → H) :
    ReturnsInHanded {} Try.checked os 3 .any (Rows.busPlaysSpec.pre6 enc Try.prog Try.f3 Rows.busPlaysRow.domain false) (Rows.busPlaysSpec.post enc Try.prog Try.f3 false true false false) := by
  refine law_lifted (C := Try.checked) (tb := 4) own started (by kernel_rfl) Try.func3
    (ChangeSpec.witness6 (enc := enc) (C := Try.checked) false ⟨#[], #[.slice none 0 0, .int .u64 0, .slice none 0 0], []⟩ 8 (by kernel_rfl) (by kernel_rfl) (by kernel_rfl) (by kernel_rfl)) laid (by kernel_rfl) (by kernel_rfl) Try.underlying4 rfl ?_
  intro W base args ds ps hval0 hA0 hlt
  have hval : ∀ (j : Nat) t v, Try.f3.params[j]? = some t → args[j]? = some v → Value.okWide Try.prog W .any base t v := hval0
  have hA : DataW.TrodAll enc Try.prog W 0 (fun _ => true) true Try.f3.params.toList args.toList ds ps := hA0
  clear hA0 hval0
  rw [Try.params3] at hA hval
  obtain ⟨v0, vs0, d0, ds0, p0, q0, hargs, rfl, rfl, h0, r0⟩ := trodAll_cons hA
  obtain ⟨v1, vs1, d1, ds1, p1, q1, rfl, rfl, rfl, h1, r1⟩ := trodAll_cons r0
  obtain ⟨v2, vs2, d2, ds2, p2, q2, rfl, rfl, rfl, h2, r2⟩ := trodAll_cons r1
  obtain ⟨rfl, rfl, rfl⟩ := trodAll_nil r2
  obtain rfl : args = #[v0, v1, v2] := by cases args; simp_all
  obtain ⟨A0, n0, cap0, V0, rfl, le0, mx0, rd0, lf0⟩ := open_slice_spots (m := 4) (d := 20) (l := [(0, 3), (1, 3), (2, 23), (3, 23)]) Try.underlying22 (by kernel_rfl) (by decide) (by kernel_rfl) (hval 0 22 v0 rfl rfl) h0
  have f0_0 := fun j hj => leaf_int Try.underlying3 (lf0 0 3 (by simp) j hj)
  have f0_1 := fun j hj => leaf_int Try.underlying3 (lf0 1 3 (by simp) j hj)
  have f0_2 := fun j hj => leaf_int Try.underlying23 (lf0 2 23 (by simp) j hj)
  have f0_3 := fun j hj => leaf_int Try.underlying23 (lf0 3 23 (by simp) j hj)
  obtain ⟨a1, rfl, rfl, rfl, w1⟩ := open_int Try.underlying23 (hval 1 23 v1 rfl rfl) h1
  obtain ⟨A2, n2, cap2, V2, rfl, le2, mx2, rd2, lf2⟩ := open_slice_spots (m := 2) (d := 20) (l := [(0, 23), (1, 38)]) Try.underlying24 (by kernel_rfl) (by decide) (by kernel_rfl) (hval 2 24 v2 rfl rfl) h2
  have f2_0 := fun j hj => leaf_int Try.underlying23 (lf2 0 23 (by simp) j hj)
  have f2_1 := lf2 1 38 (by simp)
  refine ⟨⟨rfl, rfl, rfl⟩, ?_⟩
  exact walk A0 n0 cap0 V0 a1 A2 n2 cap2 V2 W (bounds_u64 w1) (by omega) (by omega) rd0 (mvOf (ints f0_0) (ints f0_1) (ints f0_2) (ints f0_3)) rd2 f2_0 (fun j hj => by
    obtain ⟨B, m, c, V3, e, le, mx, rdm, lf⟩ := leaf_slice (m := 1) (d := 20) (l := [(0, 3)]) Try.underlying38 (by kernel_rfl) (by decide) (by kernel_rfl) (f2_1 j hj)
    exact ⟨B, m, c, _, e, by omega, rd_of rdm (fun i hi => by
      obtain ⟨z, hz, _⟩ := leaf_int Try.underlying3 (lf 0 3 (by simp) i hi)
      exact ⟨z, hz⟩)⟩)

theorem over : Rows.busPlaysRow.holds Try.pinned (OpenSpec.ofChange Rows.busPlaysSpec) :=
  OpenClaim.holds_of_wide 3 Try.f3 rfl rfl rfl rfl rfl rfl rfl ⟨rfl, rfl, rfl, rfl, rfl⟩ rfl rfl rfl rfl rfl (by kernel_rfl) Try.func3 (by kernel_rfl)
    (of_decide_eq_true (by kernel_rfl)) (by unfold Func.isWrapper; first | (rw [if_pos (by decide +kernel)]; kernel_rfl) | (rw [if_neg (by decide +kernel)]; exact ⟨rfl, rfl⟩))
    (fun os started H enc _ => lifted os started H enc)
theorem proved : Rows.BusPlaysSaid := over
#print axioms proved
end Go.Proofs.Ytabocojmobbpaaa.busPlays
