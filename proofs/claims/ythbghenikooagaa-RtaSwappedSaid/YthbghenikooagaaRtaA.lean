/- Layer 16: answer times, by the program: the least fixed number. -/
import Derived.Test.YthbghenikooagaaRtaB
import Derived.Test.YthbghenikooagaaFam
import Derived.BigRegion
import Derived.Deep.RegionHeld3
import Derived.LoopTactic
namespace Go.Proofs.Ythbghenikooagaa
open Go.RowKit
set_option linter.unusedVariables false
set_option maxRecDepth 100000
set_option maxHeartbeats 2000000
def oNat (o : Option Nat) : Int := ((o.getD 0 : Nat) : Int)
section
variable {w0 w : World} {A B : Option Addr} {n m cap capB : Nat} {T : Nat → Wk} {S : Nat → Ld}
theorem answer_c (x : Wk) (hx : x.ok) {l : List Tk} (rd : TkRd w A l) (ok : TkOK l) (hl : l.length ≤ 64) (o : Option Nat) (ho : o = lfp x.cost.toNat x.dead.toNat l) :
    Calls Try.prog 23 #[.agg x.cells, .slice A l.length cap] w fun e w' => e = .returned (.tuple #[.int .u64 (oNat o), .bool o.isSome]) ∧ Below w.heap.size w w' := by
  obtain ⟨p, c, r, d⟩ := x
  obtain ⟨-, x1, x2, x3, x4⟩ := hx
  dsimp only at x1 x2 x3 x4 ho
  have b0 : Below w.heap.size w (w.alloc (.cells (Wk.cells ⟨p, c, r, d⟩) 26)) := (Below.refl _ _).alloc (Nat.le_refl _) _
  have bk := Blk.new w 26 (Wk.cells ⟨p, c, r, d⟩)
  obtain ⟨k0, k1, k2, k3⟩ := bk.four
  have HBK := Lib.hid bk
  have BC := Lib.hid (below_c (cap := cap) (rd.below b0) ok hl c x1 (by omega))
  have RD := Lib.hid rd
  have OK := Lib.hid ok
  have HO := Lib.hid ho
  have B0 := Lib.hid b0
  clear rd ok ho bk b0
  go_enter Try.func23, Try.ntmps23
  go_wp2_with fail
  refine BC.out.mono ?_
  rintro e w1 ⟨s, b, rfl, s0, s1, hy, hn, hb⟩
  have HY := Lib.hid hy
  have HN := Lib.hid hn
  have bk1 := HBK.out.stay hb
  have B1 := Lib.hid (below_then B0.out hb)
  clear hy hn hb BC k0 k1 k2 k3
  cases b with
  | false =>
    have hnone : o = none := by
      rw [HO.out, lfp_none]
      exact fun t ht => HN.out rfl t (by unfold M64; omega)
    subst hnone
    go_wp2_with fail
    go_loopw [6, 8] (fun a b wr => a = .int .u64 s ∧ Below w.heap.size w wr) (fun _ _ _ => 0)
    case atStart => exact ⟨rfl, B1.out⟩
    case round =>
      obtain ⟨rfl, hbl⟩ := hrel
      go_wp2_with fail
      go_ret2
      exact ⟨rfl, hbl⟩
  | true =>
    obtain ⟨hy1, hy2⟩ := HY.out rfl
    have BK1 := Lib.hid bk1
    clear bk1 HY HN
    go_wp2_with fail
    go_loopw [6, 8] (fun a b wr => ∃ s : Int, a = .int .u64 s ∧ 0 ≤ s ∧ s ≤ 18446744073709551615 ∧ s.toNat ≤ Fx c.toNat l s.toNat ∧ (∀ t, Fx c.toNat l t = t → s.toNat ≤ t) ∧ Blk wr w.heap.size 26 (Wk.cells ⟨p, c, r, d⟩) ∧ Below w.heap.size w wr) (fun a _ _ => d.toNat + 1 - (intOf a).toNat)
    case atStart => exact ⟨s, rfl, s0, s1, hy1, hy2, BK1.out, B1.out⟩
    case round =>
      clear hy1 hy2 s0 s1
      obtain ⟨s, rfl, s0, s1, hy1, hy2, bk, hbl⟩ := hrel
      obtain ⟨k0, k1, k2, k3⟩ := bk.four
      have BL := Lib.hid hbl
      have HBK := Lib.hid bk
      clear hbl
      by_cases hle : s ≤ d
      · have d1 : decide (s ≤ d) = true := decide_eq_true hle
        have hfb := tkn_bound l OK.out s.toNat
        have hfb2 := Nat.mul_le_mul_right (s.toNat + 1073741824) hl
        obtain ⟨y, hyy⟩ : ∃ y : Int, ((tkn l s.toNat : Nat) : Int) = y := ⟨_, rfl⟩
        have y0 : 0 ≤ y ∧ y ≤ 64 * 2147483648 := by omega
        have hF : ((Fx c.toNat l s.toNat : Nat) : Int) = c + y := by unfold Fx; omega
        have TC := Lib.hid (fun W (hW : Below wr.heap.size wr W) => taken_c (cap := cap) (RD.out.below (below_then BL.out hW)) OK.out hl s s0 (by omega) y hyy.symm)
        have hwr : IntKind.u64.wrap (c + y) = c + y := IntWalk.u64_in _ ⟨by omega, by omega⟩
        have HF := Lib.hid hF
        have HY1 := Lib.hid hy1
        have HY2 := Lib.hid hy2
        haveI : Nonempty (Within (fun W => Below wr.heap.size wr W)) := ⟨⟨_, Below.refl _ _⟩⟩
        have v1 : ∀ x : Within (fun W => Below wr.heap.size wr W), x.w.cell? ⟨w.heap.size, 1, none⟩ = some (.int .u64 c) := fun x => (HBK.out.stay x.h).four.2.1
        clear hfb hfb2 hyy hF hy1 hy2
        by_cases heq : c + y = s
        · have d2 : (c + y == s) = true := beq_iff_eq.2 heq
          have hsome : o = some s.toNat := by
            rw [HO.out]
            exact lfp_of (by omega) (by have := HF.out; omega) HY2.out
          subst hsome
          have HS := Lib.hid (show oNat (some s.toNat) = s by show ((s.toNat : Nat) : Int) = s; omega)
          clear heq
          go_wp2_with fail
          refine wp_region_in (fun W => Below wr.heap.size wr W) (by kernel_rfl) (by kernel_rfl) (Below.refl _ _).drew ?_
          repeat (go_big_quiet_step ((go_at_call 28; exact in_call (p := (fun W => Below wr.heap.size wr W)) ((TC.out _ (Within.h (p := (fun W => Below wr.heap.size wr W)) _)).mono fun e w' h => ⟨h.1, below_then (Within.h (p := (fun W => Below wr.heap.size wr W)) _) h.2⟩))))
          refine wpQuiet_nil ?_
          rintro _ ⟨⟨wq, sq⟩, rfl⟩
          clear v1
          go_wp2_with fail
          go_ret2
          rw [HS.out]
          exact ⟨rfl, below_then BL.out sq⟩
        · have d2 : (c + y == s) = false := beq_eq_false_iff_ne.2 heq
          have hlt : s < c + y := by have h1 := HY1.out; have h2 := HF.out; omega
          clear heq
          go_wp2_with fail
          refine wp_region_in (fun W => Below wr.heap.size wr W) (by kernel_rfl) (by kernel_rfl) (Below.refl _ _).drew ?_
          repeat (go_big_quiet_step ((go_at_call 28; exact in_call (p := (fun W => Below wr.heap.size wr W)) ((TC.out _ (Within.h (p := (fun W => Below wr.heap.size wr W)) _)).mono fun e w' h => ⟨h.1, below_then (Within.h (p := (fun W => Below wr.heap.size wr W)) _) h.2⟩))))
          refine wpQuiet_nil ?_
          rintro _ ⟨⟨wq, sq⟩, rfl⟩
          clear v1
          go_wp2_with fail
          go_roundw
          case rel =>
            refine ⟨c + y, rfl, by omega, by omega, ?_, fun t ht => ?_, HBK.out.stay sq, below_then BL.out sq⟩
            · have e : (c + y).toNat = Fx c.toNat l s.toNat := by have := HF.out; omega
              rw [e]; exact Fx_mono _ _ (by have := HF.out; omega)
            · have e : (c + y).toNat = Fx c.toNat l s.toNat := by have := HF.out; omega
              rw [e, ← ht]; exact Fx_mono _ _ (HY2.out t ht)
          case measure => simp [intOf]; omega
      · have d1 : decide (s ≤ d) = false := decide_eq_false hle
        have hnone : o = none := by
          rw [HO.out, lfp_none]
          intro t ht e
          have := hy2 t e
          omega
        subst hnone
        clear hy1 hy2
        go_wp2_with fail
        go_ret2
        exact ⟨rfl, BL.out⟩
end
end Go.Proofs.Ythbghenikooagaa
