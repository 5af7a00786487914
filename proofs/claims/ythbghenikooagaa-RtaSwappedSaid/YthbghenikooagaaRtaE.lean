/- Layer 16: each task's answer time; whether all have one. -/
import Derived.Test.YthbghenikooagaaRtaA
import Derived.WalkMore
namespace Go.Proofs.Ythbghenikooagaa
open Go.RowKit
set_option linter.unusedVariables false
set_option maxRecDepth 100000
set_option maxHeartbeats 2000000
/-- The i-th task's answer time. -/
def timeO (n : Nat) (T : Nat → Wk) (m : Nat) (S : Nat → Ld) (i : Int) : Option Nat :=
  if (0 ≤ i ∧ i < (n : Int)) ∧ TOK n T ∧ SOK m S then lfp (T i.toNat).cost.toNat (T i.toNat).dead.toNat (whoL T S n m i.toNat) else none
def allO (n : Nat) (T : Nat → Wk) (m : Nat) (S : Nat → Ld) : Prop := ∀ i : Nat, i < n → (timeO n T m S i).isSome = true
instance (n : Nat) (T : Nat → Wk) (m : Nat) (S : Nat → Ld) : Decidable (allO n T m S) := by unfold allO; infer_instance
section
variable {w0 w : World} {A B : Option Addr} {n m cap capB : Nat} {T : Nat → Wk} {S : Nat → Ld}
theorem time_c (rd : Ts w A n T) (rdS : Ls w B m S) (ht : LTyped m S) (hn : n ≤ maxLen) (hm : m ≤ maxLen) (i : Int) (o : Option Nat) (ho : o = timeO n T m S i) :
    Calls Try.prog 14 #[.slice A n cap, .slice B m capB, .int .i64 i] w fun e w' => e = .returned (.tuple #[.int .u64 (oNat o), .bool o.isSome]) ∧ Below w.heap.size w w' := by
  have HN := Lib.hid (fun h : ¬ ((0 ≤ i ∧ i < (n : Int)) ∧ TOK n T ∧ SOK m S) => show o = none by rw [ho]; unfold timeO; rw [if_neg h])
  have HY := Lib.hid (fun h : ((0 ≤ i ∧ i < (n : Int)) ∧ TOK n T ∧ SOK m S) => show o = lfp (T i.toNat).cost.toNat (T i.toNat).dead.toNat (whoL T S n m i.toNat) by rw [ho]; unfold timeO; rw [if_pos h])
  clear ho
  have MT := Lib.hid (tmay_c (cap := cap) rd hn (decide (TOK n T)) rfl)
  have MS := Lib.hid (fun W (hW : Below w.heap.size w W) => smay_c (cap := capB) (rdS.below hW) ht hm (decide (SOK m S)) rfl)
  have RD := Lib.hid rd
  have RS := Lib.hid rdS
  unfold maxLen at hn hm
  clear rd rdS ht hm
  by_cases hi0 : i < 0
  · have d0 : decide (i < 0) = true := decide_eq_true hi0
    have hnone := HN.out fun h => by omega
    subst hnone
    go_enter Try.func14, Try.ntmps14
    go_wp2_with fail
    go_ret2
    exact ⟨rfl, Below.refl _ _⟩
  have d0 : decide (i < 0) = false := decide_eq_false hi0
  by_cases hin : (n : Int) ≤ i
  · have d1 : decide ((n : Int) ≤ i) = true := decide_eq_true hin
    have hnone := HN.out fun h => by omega
    subst hnone
    go_enter Try.func14, Try.ntmps14
    go_wp2_with fail
    go_ret2
    exact ⟨rfl, Below.refl _ _⟩
  have d1 : decide ((n : Int) ≤ i) = false := decide_eq_false hin
  go_enter Try.func14, Try.ntmps14
  go_wp2_with fail
  refine MT.out.mono ?_
  rintro e w1 ⟨rfl, hb1⟩
  by_cases hT : TOK n T
  · have e1 : decide (TOK n T) = true := decide_eq_true hT
    have HT := Lib.hid hT
    rw [e1]
    clear e1 hT
    go_wp2_with fail
    refine (MS.out w1 hb1).mono ?_
    rintro e w2 ⟨rfl, hb2⟩
    by_cases hS : SOK m S
    · have e2 : decide (SOK m S) = true := decide_eq_true hS
      have HS := Lib.hid hS
      rw [e2]
      have hy := HY.out ⟨⟨by omega, by omega⟩, HT.out, HS.out⟩
      have BW := Lib.hid (below_then hb1 hb2)
      clear e2 hS hb1 hb2
      obtain ⟨ib, off, rfl, k0, k1, k2, k3⟩ := RD.out.at_ BW.out (k := i.toNat) (by omega)
      have AH := Lib.hid (fun W (hW : Below w.heap.size w W) => ahead_c (cap := cap) (capB := capB) (RD.out.below hW) (RS.out.below hW) HT.out HS.out i (by omega) (by omega))
      have CE := Lib.hid (fun W (hW : Below w.heap.size w W) => (show W.cell? ⟨ib, off + i.toNat * 4, none⟩ = some (.int .i64 (T i.toNat).prio) ∧ W.cell? ⟨ib, off + i.toNat * 4 + 1, none⟩ = some (.int .u64 (T i.toNat).cost) ∧ W.cell? ⟨ib, off + i.toNat * 4 + 2, none⟩ = some (.int .u64 (T i.toNat).per) ∧ W.cell? ⟨ib, off + i.toNat * 4 + 3, none⟩ = some (.int .u64 (T i.toNat).dead) by
        obtain ⟨ib', off', ha, g⟩ := RD.out.at_ hW (k := i.toNat) (by omega)
        injection ha with ha
        injection ha with ha1 ha2
        subst ha1 ha2
        exact g))
      have XOK := Lib.hid (HT.out.2 i.toNat (by omega))
      have WOK := Lib.hid (whoL_ok (i := i.toNat) HT.out HS.out)
      have WLN := Lib.hid (whoL_len (i := i.toNat) HT.out HS.out)
      have AN := Lib.hid (fun W (C : Option Addr) (cp : Nat) (h : TkRd W C (whoL T S n m i.toNat)) => answer_c (cap := cp) (T i.toNat) XOK.out h WOK.out (by have := WLN.out; omega) o hy)
      have hi1 : (0 : Int) ≤ i := by omega
      have hi2 : i < (n : Int) := by omega
      generalize whoL T S n m i.toNat = l at *
      obtain ⟨x, hx⟩ : ∃ x, T i.toNat = x := ⟨_, rfl⟩
      rw [hx] at k0 k1 k2 k3 CE AN
      obtain ⟨p, c, r, d⟩ := x
      dsimp only [Wk.cells] at k0 k1 k2 k3 CE AN
      clear hx hy hin hi0
      go_wp2_with fail
      go_region_held3 (fun W => W.cell? ⟨ib, off + i.toNat * 4, none⟩ = some (.int .i64 p) ∧ W.cell? ⟨ib, off + i.toNat * 4 + 1, none⟩ = some (.int .u64 c) ∧ W.cell? ⟨ib, off + i.toNat * 4 + 2, none⟩ = some (.int .u64 r) ∧ W.cell? ⟨ib, off + i.toNat * 4 + 3, none⟩ = some (.int .u64 d)) (go_keep)
        (first
          | (go_at_call 24; refine (AH.out _ BW.out.drew).mono ?_; rintro e w5 ⟨C, cp, rfl, s5⟩; have B5 := Lib.hid (Below.trans BW.out.drew (s5.below.mono BW.out.drew.size)); have R5 := Lib.hid (s5.tkrd 0 rfl); have q5 := CE.out _ B5.out; clear s5)
          | (go_at_call 23; refine (AN.out _ _ _ R5.out).mono ?_; rintro e w6 ⟨rfl, hb6⟩; have B6 := Lib.hid (below_then B5.out hb6); have q6 := CE.out _ B6.out; clear hb6))
      all_goals
        go_wp2_with fail
        go_ret2
        exact ⟨rfl, B6.out⟩
    · have e2 : decide (SOK m S) = false := decide_eq_false hS
      rw [e2]
      have hnone := HN.out fun h => hS h.2.2
      subst hnone
      clear e2 hS
      go_wp2_with fail
      go_ret2
      exact ⟨rfl, below_then hb1 hb2⟩
  · have e1 : decide (TOK n T) = false := decide_eq_false hT
    rw [e1]
    have hnone := HN.out fun h => hT h.2.1
    subst hnone
    clear e1 hT
    go_wp2_with fail
    go_ret2
    exact ⟨rfl, hb1⟩
theorem all_c (rd : Ts w A n T) (rdS : Ls w B m S) (ht : LTyped m S) (hn : n ≤ maxLen) (hm : m ≤ maxLen) (b : Bool) (hb : b = decide (allO n T m S)) :
    Calls Try.prog 18 #[.slice A n cap, .slice B m capB] w fun e w' => e = .returned (.bool b) ∧ Below w.heap.size w w' := by
  have HB := Lib.hid hb
  have TM := Lib.hid (fun W (hW : Below w.heap.size w W) (i : Int) => time_c (cap := cap) (capB := capB) (rd.below hW) (rdS.below hW) ht hn hm i _ rfl)
  unfold maxLen at hn hm
  clear rd rdS ht hm hb
  go_enter Try.func18, Try.ntmps18
  go_wp2_with fail
  go_step3
  go_wp2_with fail
  go_step3
  go_wp2_with fail
  go_loopw [5, 11] (fun a i wr => ∃ k : Nat, k ≤ n ∧ i = .int .i64 k ∧ a = .bool true ∧ (∀ j, j < k → (timeO n T m S j).isSome = true) ∧ Below w.heap.size w wr) (fun _ i _ => n - (intOf i).toNat)
  case atStart => exact ⟨0, by omega, rfl, rfl, (fun j hj => absurd hj (by omega)), Below.refl _ _⟩
  case round =>
    obtain ⟨k, hk, rfl, rfl, hall, hbl⟩ := hrel
    have HA := Lib.hid hall
    have BL := Lib.hid hbl
    clear hall hbl
    by_cases hlt : k < n
    · have TK := Lib.hid (TM.out wr BL.out k)
      obtain ⟨o, ho⟩ : ∃ o, timeO n T m S (k : Int) = o := ⟨_, rfl⟩
      rw [ho] at TK
      have HO := Lib.hid ho
      clear ho
      cases o with
      | none =>
        obtain rfl : b = false := by
          rw [HB.out]
          refine decide_eq_false fun h => ?_
          have := h k hlt
          rw [HO.out] at this
          cases this
        go_wp2_with fail
        refine TK.out.mono ?_
        rintro e w2 ⟨rfl, hb2⟩
        go_wp2_with fail
        first | go_ret | (rw [Exit.noGoto_ret]; go_ret)
        exact ⟨rfl, below_then BL.out hb2⟩
      | some v =>
        go_wp2_with fail
        refine TK.out.mono ?_
        rintro e w2 ⟨rfl, hb2⟩
        go_wp2_with fail
        go_roundw
        case rel =>
          refine ⟨k + 1, by omega, by go_num, rfl, fun j hj => ?_, below_then BL.out hb2⟩
          by_cases e : j = k
          · rw [e, HO.out]; rfl
          · exact HA.out j (by omega)
        case measure => simp [intOf]; omega
    · obtain rfl : k = n := by omega
      obtain rfl : b = true := by rw [HB.out]; exact decide_eq_true fun i hi => HA.out i hi
      go_wp2_with fail
      first | go_ret | (rw [Exit.noGoto_ret]; go_ret)
      exact ⟨rfl, BL.out⟩
end
end Go.Proofs.Ythbghenikooagaa
