/-
  For every two tasks RtaSimple answers true, and changes nothing: one task alone is done in its cost, of two the more urgent one is done as if it were alone, and without room nobody is let in. No condition.
-/
import Derived.Test.YthbghenikooagaaRows
import Derived.Test.YthbghenikooagaaFr
import Derived.Test.YthbghenikooagaaRtaH
import Derived.Test.YthbghenikooagaaOpen
namespace Go.Proofs.Ythbghenikooagaa.rtaSimple
open Go.ChangeShapes Go.WideShapes Go.ChangeAt Go.RowKit
set_option linter.unusedVariables false
theorem own : ownKnob Try.prog.godebug = none := by kernel_rfl
theorem laid : laidOutB Try.prog = true := by kernel_rfl
set_option maxRecDepth 100000
set_option maxHeartbeats 2000000
def okd (p c r d : Int) : Bool := decide (Wk.ok ⟨p, c, r, d⟩)
theorem MG (p c r d : Int) (W : World) : Calls Try.prog 16 #[.agg #[.int .i64 p, .int .u64 c, .int .u64 r, .int .u64 d]] W fun e w' => e = .returned (.bool (okd p c r d)) ∧ Below W.heap.size W w' := wmay p c r d W _ rfl
theorem RG (p c r d : Int) (W : World) : Calls Try.prog 13 #[.agg #[.int .i64 p, .int .u64 c, .int .u64 r, .int .u64 d]] W fun e w' => e = .returned (.bool (okd p c r d)) ∧ Below W.heap.size W w' := rwmay p c r d W _ rfl
abbrev AB (w : World) (a b : Wk) : List Res := [BlkR w.heap.size 26 a.cells, BlkR (w.heap.size + 1) 26 b.cells]
theorem T1_ts {w : World} {g : Nat} {t : TypeId} {a : Wk} (h : Blk w g t a.cells) : Ts w (some ⟨g, 0, none⟩) 1 (T1 a) := blk_ts1 (T := T1 a) h rfl
theorem walk (p c r d p2 c2 r2 d2 : Int) (w : World) :
    Calls Try.prog 4 #[.agg (Wk.cells ⟨p, c, r, d⟩), .agg (Wk.cells ⟨p2, c2, r2, d2⟩)] w fun e w' => e = .returned (.bool true) ∧ Below w.heap.size w w' := by
  have s0 : St w None ((w.alloc (.cells (Wk.cells ⟨p, c, r, d⟩) 26)).alloc (.cells (Wk.cells ⟨p2, c2, r2, d2⟩) 26)) (AB w ⟨p, c, r, d⟩ ⟨p2, c2, r2, d2⟩) := by
    have h := ((St.begin w).box 26 (Wk.cells ⟨p, c, r, d⟩)).box 26 (Wk.cells ⟨p2, c2, r2, d2⟩)
    rw [show (w.alloc (.cells (Wk.cells ⟨p, c, r, d⟩) 26)).heap.size = w.heap.size + 1 by simp] at h
    exact h
  have S0' := Lib.hid s0
  clear s0
  go_enter Try.func4, Try.ntmps4
  go_wp2_with fail
  refine (awake_o S0'.out).mono ?_
  rintro e wr ⟨rfl, sr⟩
  clear S0'
  obtain ⟨k0, k1, k2, k3⟩ := (sr.blk 0 rfl).four
  obtain ⟨k4, k5, k6, k7⟩ := (sr.blk 1 rfl).four
  have SR := Lib.hid sr
  clear sr
  by_cases ha : Wk.ok ⟨p, c, r, d⟩
  · have MA := Lib.hid (fun W => wmay p c r d W true (decide_eq_true ha).symm)
    have RA := Lib.hid (fun W => rwmay p c r d W true (decide_eq_true ha).symm)
    have HA := Lib.hid ha
    clear ha
    go_wp2_with fail
    refine (RA.out _).mono ?_
    rintro e w2 ⟨rfl, hb2⟩
    have S2 := Lib.hid (SR.out.stay hb2)
    obtain ⟨k0, k1, k2, k3⟩ := (S2.out.blk 0 rfl).four
    obtain ⟨k4, k5, k6, k7⟩ := (S2.out.blk 1 rfl).four
    clear hb2
    by_cases hb : Wk.ok ⟨p2, c2, r2, d2⟩
    · have MB := Lib.hid (fun W => wmay p2 c2 r2 d2 W true (decide_eq_true hb).symm)
      have RB := Lib.hid (fun W => rwmay p2 c2 r2 d2 W true (decide_eq_true hb).symm)
      have HB := Lib.hid hb
      clear hb
      go_wp2_with fail
      refine (RB.out _).mono ?_
      rintro e w3 ⟨rfl, hb3⟩
      have S3 := Lib.hid (S2.out.stay hb3)
      obtain ⟨k0, k1, k2, k3⟩ := (S3.out.blk 0 rfl).four
      obtain ⟨k4, k5, k6, k7⟩ := (S3.out.blk 1 rfl).four
      have SM := Lib.hid (small_c (cap := 2) (B := none) (m := 0) (capB := 0) (blk_ts2 (T := T2 ⟨p, c, r, d⟩ ⟨p2, c2, r2, d2⟩) (Blk.new w3 26 #[.int .i64 p, .int .u64 c, .int .u64 r, .int .u64 d, .int .i64 p2, .int .u64 c2, .int .u64 r2, .int .u64 d2]) rfl rfl) (by unfold maxLen; omega) (by unfold maxLen; omega))
      clear hb3
      go_wp2_with fail
      refine SM.out.mono ?_
      rintro e wr ⟨b, rfl, -, hb4⟩
      have S4 := Lib.hid ((S3.out.alloc _).stay hb4)
      clear hb4 SM
      cases b with
      | false =>
        clear k0 k1 k2 k3 k4 k5 k6 k7
        clear SR S2 S3
        have SR := S4
        clear S4
        have q1 : (okd p c r d == okd p c r d) = true := by simp
        have q2 : (okd p2 c2 r2 d2 == okd p2 c2 r2 d2) = true := by simp
        haveI : Nonempty (Within (fun W => Below wr.heap.size wr W)) := ⟨⟨_, Below.refl _ _⟩⟩
        have u0 : ∀ x : Within (fun W => Below wr.heap.size wr W), x.w.cell? ⟨w.heap.size, 0, none⟩ = some (.int .i64 p) := fun x => ((SR.out.stay x.h).blk 0 rfl).four.1
        have u1 : ∀ x : Within (fun W => Below wr.heap.size wr W), x.w.cell? ⟨w.heap.size, 1, none⟩ = some (.int .u64 c) := fun x => ((SR.out.stay x.h).blk 0 rfl).four.2.1
        have u2 : ∀ x : Within (fun W => Below wr.heap.size wr W), x.w.cell? ⟨w.heap.size, 2, none⟩ = some (.int .u64 r) := fun x => ((SR.out.stay x.h).blk 0 rfl).four.2.2.1
        have u3 : ∀ x : Within (fun W => Below wr.heap.size wr W), x.w.cell? ⟨w.heap.size, 3, none⟩ = some (.int .u64 d) := fun x => ((SR.out.stay x.h).blk 0 rfl).four.2.2.2
        have u4 : ∀ x : Within (fun W => Below wr.heap.size wr W), x.w.cell? ⟨w.heap.size + 1, 0, none⟩ = some (.int .i64 p2) := fun x => ((SR.out.stay x.h).blk 1 rfl).four.1
        have u5 : ∀ x : Within (fun W => Below wr.heap.size wr W), x.w.cell? ⟨w.heap.size + 1, 1, none⟩ = some (.int .u64 c2) := fun x => ((SR.out.stay x.h).blk 1 rfl).four.2.1
        have u6 : ∀ x : Within (fun W => Below wr.heap.size wr W), x.w.cell? ⟨w.heap.size + 1, 2, none⟩ = some (.int .u64 r2) := fun x => ((SR.out.stay x.h).blk 1 rfl).four.2.2.1
        have u7 : ∀ x : Within (fun W => Below wr.heap.size wr W), x.w.cell? ⟨w.heap.size + 1, 3, none⟩ = some (.int .u64 d2) := fun x => ((SR.out.stay x.h).blk 1 rfl).four.2.2.2
        go_wp2_with fail
        refine wp_region_in (fun W => Below wr.heap.size wr W) (by kernel_rfl) (by kernel_rfl) (Below.refl _ _).drew ?_
        repeat (go_big_quiet_step ((first
          | (go_at_call 16; exact in_call (p := (fun W => Below wr.heap.size wr W)) ((MG _ _ _ _ _).mono fun e w' h => ⟨h.1, below_then (Within.h (p := (fun W => Below wr.heap.size wr W)) _) h.2⟩))
          | (go_at_call 13; exact in_call (p := (fun W => Below wr.heap.size wr W)) ((RG _ _ _ _ _).mono fun e w' h => ⟨h.1, below_then (Within.h (p := (fun W => Below wr.heap.size wr W)) _) h.2⟩)))))
        refine wpQuiet_nil ?_
        rintro _ ⟨⟨wq, sq⟩, rfl⟩
        clear u0 u1 u2 u3 u4 u5 u6 u7
        go_wp2_with fail
        go_ret
        exact ⟨rfl, (SR.out.stay sq).below⟩
      | true =>
        clear k0 k1 k2 k3 k4 k5 k6 k7
        obtain ⟨k0, k1, k2, k3⟩ := (S4.out.blk 0 rfl).four
        obtain ⟨k4, k5, k6, k7⟩ := (S4.out.blk 1 rfl).four
        have AO := Lib.hid (T1_ts (a := ⟨p, c, r, d⟩) (Blk.new wr 26 (Wk.cells ⟨p, c, r, d⟩)))
        have TO := Lib.hid (time_c (cap := 1) (capB := 0) AO.out (ls_nil _ S0) (fun j hj => absurd hj (by omega)) (by unfold maxLen; omega) (by unfold maxLen; omega) 0 _ (time_one HA.out S0).symm)
        have HC := Lib.hid (show oNat (some (Wk.cost ⟨p, c, r, d⟩).toNat) = c by show ((c.toNat : Nat) : Int) = c; have := HA.out.2.1; dsimp only at this; omega)
        rw [HC.out] at TO
        have SB := Lib.hid (S4.out.alloc (.cells (Wk.cells ⟨p, c, r, d⟩) 26))
        go_wp2_with fail
        refine TO.out.mono ?_
        rintro e w5 ⟨rfl, hb5⟩
        have S5 := Lib.hid (SB.out.stay hb5)
        clear hb5 TO AO k0 k1 k2 k3 k4 k5 k6 k7
        obtain ⟨k0, k1, k2, k3⟩ := (S5.out.blk 0 rfl).four
        obtain ⟨k4, k5, k6, k7⟩ := (S5.out.blk 1 rfl).four
        have AD := Lib.hid (admit_c (cap := 0) (capB := 0) (ts_nil w5 (T1 ⟨p, c, r, d⟩)) (ls_nil w5 S0) (fun j hj => absurd hj (by omega)) (by omega) (fun _ => rfl) (by unfold maxLen; omega) ⟨p, c, r, d⟩ true (decide_eq_true (all_one HA.out S0 (T1 ⟨p, c, r, d⟩))).symm)
        go_wp2_with fail
        refine AD.out.mono ?_
        rintro e w6 ⟨rfl, hb6⟩
        have S6 := Lib.hid (S5.out.stay hb6)
        clear hb6 AD k0 k1 k2 k3 k4 k5 k6 k7
        obtain ⟨k0, k1, k2, k3⟩ := (S6.out.blk 0 rfl).four
        obtain ⟨k4, k5, k6, k7⟩ := (S6.out.blk 1 rfl).four
        obtain ⟨o, ho⟩ : ∃ o, timeO 2 (T2 ⟨p, c, r, d⟩ ⟨p2, c2, r2, d2⟩) 0 S0 0 = o := ⟨_, rfl⟩
        have TW := Lib.hid (time_c (cap := 2) (capB := 0) (blk_ts2 (T := T2 ⟨p, c, r, d⟩ ⟨p2, c2, r2, d2⟩) (Blk.new w6 26 #[.int .i64 p, .int .u64 c, .int .u64 r, .int .u64 d, .int .i64 p2, .int .u64 c2, .int .u64 r2, .int .u64 d2]) rfl rfl) (ls_nil _ S0) (fun j hj => absurd hj (by omega)) (by unfold maxLen; omega) (by unfold maxLen; omega) 0 o ho.symm)
        have SC := Lib.hid (S6.out.alloc (.cells #[.int .i64 p, .int .u64 c, .int .u64 r, .int .u64 d, .int .i64 p2, .int .u64 c2, .int .u64 r2, .int .u64 d2] 26))
        have HT := time_two HA.out HB.out S0
        rw [ho] at HT
        dsimp only at HT
        by_cases hpp : p < p2
        · have z1 : decide (p < p2) = true := decide_eq_true hpp
          rw [if_neg (by omega), lfp_nil (by have := HA.out.2.2.1; dsimp only at this; omega)] at HT
          subst HT
          have HC2 : oNat (some c.toNat) = c := HC.out
          rw [HC2] at TW
          clear ho hpp HC2
          go_wp2_with fail
          refine TW.out.mono ?_
          rintro e w7 ⟨rfl, hb7⟩
          have S7 := Lib.hid (SC.out.stay hb7)
          clear hb7 TW k0 k1 k2 k3 k4 k5 k6 k7
          obtain ⟨k0, k1, k2, k3⟩ := (S7.out.blk 0 rfl).four
          obtain ⟨k4, k5, k6, k7⟩ := (S7.out.blk 1 rfl).four
          go_wp2_with fail
          go_ret
          exact ⟨rfl, S7.out.below⟩
        · have z1 : decide (p < p2) = false := decide_eq_false hpp
          rw [if_pos (by omega)] at HT
          cases o with
          | none =>
            clear ho hpp HT
            go_wp2_with fail
            refine TW.out.mono ?_
            rintro e w7 ⟨rfl, hb7⟩
            have S7 := Lib.hid (SC.out.stay hb7)
            clear hb7 TW k0 k1 k2 k3 k4 k5 k6 k7
            obtain ⟨k0, k1, k2, k3⟩ := (S7.out.blk 0 rfl).four
            obtain ⟨k4, k5, k6, k7⟩ := (S7.out.blk 1 rfl).four
            go_wp2_with fail
            go_ret
            exact ⟨rfl, S7.out.below⟩
          | some y =>
            have hup := two_up HA.out HB.out HT.symm
            dsimp only at hup
            obtain ⟨yi, hyi⟩ : ∃ yi, oNat (some y) = yi := ⟨_, rfl⟩
            have hy2 : (y : Int) = yi := hyi
            rw [hyi] at TW
            rw [hy2] at hup
            have bc := HA.out.2
            have bd := HB.out.2
            dsimp only at bc bd
            have hw : IntKind.u64.wrap (c + c2) = c + c2 := IntWalk.u64_in _ ⟨by omega, by omega⟩
            have z2 : decide (c + c2 ≤ yi) = true := decide_eq_true hup
            clear ho hpp HT hyi hy2 bc bd hup
            go_wp2_with fail
            refine TW.out.mono ?_
            rintro e w7 ⟨rfl, hb7⟩
            have S7 := Lib.hid (SC.out.stay hb7)
            clear hb7 TW k0 k1 k2 k3 k4 k5 k6 k7
            obtain ⟨k0, k1, k2, k3⟩ := (S7.out.blk 0 rfl).four
            obtain ⟨k4, k5, k6, k7⟩ := (S7.out.blk 1 rfl).four
            go_wp2_with fail
            go_ret
            exact ⟨rfl, S7.out.below⟩
    · have MB := Lib.hid (fun W => wmay p2 c2 r2 d2 W false (decide_eq_false hb).symm)
      have RB := Lib.hid (fun W => rwmay p2 c2 r2 d2 W false (decide_eq_false hb).symm)
      clear hb
      go_wp2_with fail
      refine (RB.out _).mono ?_
      rintro e wr ⟨rfl, hb3⟩
      have S3 := Lib.hid (S2.out.stay hb3)
      clear hb3 k0 k1 k2 k3 k4 k5 k6 k7
      clear SR S2
      have SR := S3
      clear S3
      have q1 : (okd p c r d == okd p c r d) = true := by simp
      have q2 : (okd p2 c2 r2 d2 == okd p2 c2 r2 d2) = true := by simp
      haveI : Nonempty (Within (fun W => Below wr.heap.size wr W)) := ⟨⟨_, Below.refl _ _⟩⟩
      have u0 : ∀ x : Within (fun W => Below wr.heap.size wr W), x.w.cell? ⟨w.heap.size, 0, none⟩ = some (.int .i64 p) := fun x => ((SR.out.stay x.h).blk 0 rfl).four.1
      have u1 : ∀ x : Within (fun W => Below wr.heap.size wr W), x.w.cell? ⟨w.heap.size, 1, none⟩ = some (.int .u64 c) := fun x => ((SR.out.stay x.h).blk 0 rfl).four.2.1
      have u2 : ∀ x : Within (fun W => Below wr.heap.size wr W), x.w.cell? ⟨w.heap.size, 2, none⟩ = some (.int .u64 r) := fun x => ((SR.out.stay x.h).blk 0 rfl).four.2.2.1
      have u3 : ∀ x : Within (fun W => Below wr.heap.size wr W), x.w.cell? ⟨w.heap.size, 3, none⟩ = some (.int .u64 d) := fun x => ((SR.out.stay x.h).blk 0 rfl).four.2.2.2
      have u4 : ∀ x : Within (fun W => Below wr.heap.size wr W), x.w.cell? ⟨w.heap.size + 1, 0, none⟩ = some (.int .i64 p2) := fun x => ((SR.out.stay x.h).blk 1 rfl).four.1
      have u5 : ∀ x : Within (fun W => Below wr.heap.size wr W), x.w.cell? ⟨w.heap.size + 1, 1, none⟩ = some (.int .u64 c2) := fun x => ((SR.out.stay x.h).blk 1 rfl).four.2.1
      have u6 : ∀ x : Within (fun W => Below wr.heap.size wr W), x.w.cell? ⟨w.heap.size + 1, 2, none⟩ = some (.int .u64 r2) := fun x => ((SR.out.stay x.h).blk 1 rfl).four.2.2.1
      have u7 : ∀ x : Within (fun W => Below wr.heap.size wr W), x.w.cell? ⟨w.heap.size + 1, 3, none⟩ = some (.int .u64 d2) := fun x => ((SR.out.stay x.h).blk 1 rfl).four.2.2.2
      go_wp2_with fail
      refine wp_region_in (fun W => Below wr.heap.size wr W) (by kernel_rfl) (by kernel_rfl) (Below.refl _ _).drew ?_
      repeat (go_big_quiet_step ((first
        | (go_at_call 16; exact in_call (p := (fun W => Below wr.heap.size wr W)) ((MG _ _ _ _ _).mono fun e w' h => ⟨h.1, below_then (Within.h (p := (fun W => Below wr.heap.size wr W)) _) h.2⟩))
        | (go_at_call 13; exact in_call (p := (fun W => Below wr.heap.size wr W)) ((RG _ _ _ _ _).mono fun e w' h => ⟨h.1, below_then (Within.h (p := (fun W => Below wr.heap.size wr W)) _) h.2⟩)))))
      refine wpQuiet_nil ?_
      rintro _ ⟨⟨wq, sq⟩, rfl⟩
      clear u0 u1 u2 u3 u4 u5 u6 u7
      go_wp2_with fail
      go_ret
      exact ⟨rfl, (SR.out.stay sq).below⟩
  · have MA := Lib.hid (fun W => wmay p c r d W false (decide_eq_false ha).symm)
    have RA := Lib.hid (fun W => rwmay p c r d W false (decide_eq_false ha).symm)
    clear ha
    go_wp2_with fail
    refine (RA.out _).mono ?_
    rintro e wr ⟨rfl, hb2⟩
    have S2 := Lib.hid (SR.out.stay hb2)
    clear hb2 k0 k1 k2 k3 k4 k5 k6 k7
    clear SR
    have SR := S2
    clear S2
    have q1 : (okd p c r d == okd p c r d) = true := by simp
    have q2 : (okd p2 c2 r2 d2 == okd p2 c2 r2 d2) = true := by simp
    haveI : Nonempty (Within (fun W => Below wr.heap.size wr W)) := ⟨⟨_, Below.refl _ _⟩⟩
    have u0 : ∀ x : Within (fun W => Below wr.heap.size wr W), x.w.cell? ⟨w.heap.size, 0, none⟩ = some (.int .i64 p) := fun x => ((SR.out.stay x.h).blk 0 rfl).four.1
    have u1 : ∀ x : Within (fun W => Below wr.heap.size wr W), x.w.cell? ⟨w.heap.size, 1, none⟩ = some (.int .u64 c) := fun x => ((SR.out.stay x.h).blk 0 rfl).four.2.1
    have u2 : ∀ x : Within (fun W => Below wr.heap.size wr W), x.w.cell? ⟨w.heap.size, 2, none⟩ = some (.int .u64 r) := fun x => ((SR.out.stay x.h).blk 0 rfl).four.2.2.1
    have u3 : ∀ x : Within (fun W => Below wr.heap.size wr W), x.w.cell? ⟨w.heap.size, 3, none⟩ = some (.int .u64 d) := fun x => ((SR.out.stay x.h).blk 0 rfl).four.2.2.2
    have u4 : ∀ x : Within (fun W => Below wr.heap.size wr W), x.w.cell? ⟨w.heap.size + 1, 0, none⟩ = some (.int .i64 p2) := fun x => ((SR.out.stay x.h).blk 1 rfl).four.1
    have u5 : ∀ x : Within (fun W => Below wr.heap.size wr W), x.w.cell? ⟨w.heap.size + 1, 1, none⟩ = some (.int .u64 c2) := fun x => ((SR.out.stay x.h).blk 1 rfl).four.2.1
    have u6 : ∀ x : Within (fun W => Below wr.heap.size wr W), x.w.cell? ⟨w.heap.size + 1, 2, none⟩ = some (.int .u64 r2) := fun x => ((SR.out.stay x.h).blk 1 rfl).four.2.2.1
    have u7 : ∀ x : Within (fun W => Below wr.heap.size wr W), x.w.cell? ⟨w.heap.size + 1, 3, none⟩ = some (.int .u64 d2) := fun x => ((SR.out.stay x.h).blk 1 rfl).four.2.2.2
    go_wp2_with fail
    refine wp_region_in (fun W => Below wr.heap.size wr W) (by kernel_rfl) (by kernel_rfl) (Below.refl _ _).drew ?_
    repeat (go_big_quiet_step ((first
      | (go_at_call 16; exact in_call (p := (fun W => Below wr.heap.size wr W)) ((MG _ _ _ _ _).mono fun e w' h => ⟨h.1, below_then (Within.h (p := (fun W => Below wr.heap.size wr W)) _) h.2⟩))
      | (go_at_call 13; exact in_call (p := (fun W => Below wr.heap.size wr W)) ((RG _ _ _ _ _).mono fun e w' h => ⟨h.1, below_then (Within.h (p := (fun W => Below wr.heap.size wr W)) _) h.2⟩)))))
    refine wpQuiet_nil ?_
    rintro _ ⟨⟨wq, sq⟩, rfl⟩
    clear u0 u1 u2 u3 u4 u5 u6 u7
    go_wp2_with fail
    go_ret
    exact ⟨rfl, (SR.out.stay sq).below⟩

set_option maxRecDepth 100000 in
theorem lifted (os : Os) (started : os.Started) (H : Type) (enc : TypeId × Value → H) :
    ReturnsInHanded {} Try.checked os 4 .any (Rows.rtaSimpleSpec.pre6 enc Try.prog Try.f4 Rows.rtaSimpleRow.domain false) (Rows.rtaSimpleSpec.post enc Try.prog Try.f4 false true false false) := by
  refine law_lifted (C := Try.checked) (tb := 4) own started (by kernel_rfl) Try.func4
    (ChangeSpec.witness6 (enc := enc) (C := Try.checked) false ⟨#[], #[.agg #[.int .i64 0, .int .u64 0, .int .u64 0, .int .u64 0], .agg #[.int .i64 0, .int .u64 0, .int .u64 0, .int .u64 0]], []⟩ 8 (by kernel_rfl) (by kernel_rfl) (by kernel_rfl) (by kernel_rfl)) laid (by kernel_rfl) (by kernel_rfl) Try.underlying4 rfl ?_
  intro W base args ds ps hval0 hA0 hlt
  have hval : ∀ (j : Nat) t v, Try.f4.params[j]? = some t → args[j]? = some v → Value.okWide Try.prog W .any base t v := hval0
  have hA : DataW.TrodAll enc Try.prog W 0 (fun _ => true) true Try.f4.params.toList args.toList ds ps := hA0
  clear hA0 hval0
  rw [Try.params4] at hA hval
  obtain ⟨v0, vs0, d0, ds0, p0, q0, hargs, rfl, rfl, h0, r0⟩ := trodAll_cons hA
  obtain ⟨v1, vs1, d1, ds1, p1, q1, rfl, rfl, rfl, h1, r1⟩ := trodAll_cons r0
  obtain ⟨rfl, rfl, rfl⟩ := trodAll_nil r1
  obtain rfl : args = #[v0, v1] := by cases args; simp_all
  obtain ⟨cs0, rfl, sz0, ok0⟩ := open_flat (ts := [3, 24, 24, 24]) (Or.inl ⟨_, Try.underlying26⟩) (by kernel_rfl) (by kernel_rfl) (hval 0 26 v0 rfl rfl)
  obtain ⟨c0_0, c0_1, c0_2, c0_3, rfl⟩ := size4 sz0
  obtain ⟨a0_0, rfl, w0_0⟩ := cell_int Try.underlying3 (ok0 0 _ _ rfl rfl)
  obtain ⟨a0_1, rfl, w0_1⟩ := cell_int Try.underlying24 (ok0 1 _ _ rfl rfl)
  obtain ⟨a0_2, rfl, w0_2⟩ := cell_int Try.underlying24 (ok0 2 _ _ rfl rfl)
  obtain ⟨a0_3, rfl, w0_3⟩ := cell_int Try.underlying24 (ok0 3 _ _ rfl rfl)
  obtain ⟨cs1, rfl, sz1, ok1⟩ := open_flat (ts := [3, 24, 24, 24]) (Or.inl ⟨_, Try.underlying26⟩) (by kernel_rfl) (by kernel_rfl) (hval 1 26 v1 rfl rfl)
  obtain ⟨c1_0, c1_1, c1_2, c1_3, rfl⟩ := size4 sz1
  obtain ⟨a1_0, rfl, w1_0⟩ := cell_int Try.underlying3 (ok1 0 _ _ rfl rfl)
  obtain ⟨a1_1, rfl, w1_1⟩ := cell_int Try.underlying24 (ok1 1 _ _ rfl rfl)
  obtain ⟨a1_2, rfl, w1_2⟩ := cell_int Try.underlying24 (ok1 2 _ _ rfl rfl)
  obtain ⟨a1_3, rfl, w1_3⟩ := cell_int Try.underlying24 (ok1 3 _ _ rfl rfl)
  refine ⟨⟨rfl, rfl, rfl⟩, ?_⟩
  exact walk a0_0 a0_1 a0_2 a0_3 a1_0 a1_1 a1_2 a1_3 W

theorem over : Rows.rtaSimpleRow.holds Try.pinned (OpenSpec.ofChange Rows.rtaSimpleSpec) :=
  OpenClaim.holds_of_wide 4 Try.f4 rfl rfl rfl rfl rfl rfl rfl ⟨rfl, rfl, rfl, rfl, rfl⟩ rfl rfl rfl rfl rfl (by kernel_rfl) Try.func4 (by kernel_rfl)
    (of_decide_eq_true (by kernel_rfl)) (by unfold Func.isWrapper; first | (rw [if_pos (by decide +kernel)]; kernel_rfl) | (rw [if_neg (by decide +kernel)]; exact ⟨rfl, rfl⟩))
    (fun os started H enc _ => lifted os started H enc)
theorem proved : Rows.RtaSimpleSaid := over
#print axioms proved
end Go.Proofs.Ythbghenikooagaa.rtaSimple
