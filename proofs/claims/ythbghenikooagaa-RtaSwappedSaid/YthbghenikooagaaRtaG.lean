/- Layer 16: the answers that the document fixes; sets that are small. -/
import Derived.Test.YthbghenikooagaaRtaF
namespace Go.Proofs.Ythbghenikooagaa
open Go.RowKit
set_option linter.unusedVariables false
set_option maxRecDepth 100000
set_option maxHeartbeats 2000000
def Ta : Nat → Wk := fun j => if j = 0 then ⟨1, 1, 4, 4⟩ else ⟨2, 2, 6, 6⟩
def S0 : Nat → Ld := fun _ => ⟨0, 0⟩
def S1 : Nat → Ld := fun _ => ⟨2, 10⟩
theorem ls_nil (w : World) (S : Nat → Ld) : Ls w none 0 S := fun h => absurd h (by omega)
theorem ts_nil (w : World) (T : Nat → Wk) : Ts w none 0 T := fun h => absurd h (by omega)
theorem blk_ts2 {w : World} {g : Nat} {t : TypeId} {a b : Wk} {T : Nat → Wk} (h : Blk w g t #[.int .i64 a.prio, .int .u64 a.cost, .int .u64 a.per, .int .u64 a.dead, .int .i64 b.prio, .int .u64 b.cost, .int .u64 b.per, .int .u64 b.dead]) (h0 : T 0 = a) (h1 : T 1 = b) : Ts w (some ⟨g, 0, none⟩) 2 T :=
  fun _ => ⟨g, 0, rfl, h.lt, fun j hj i hi => by
    rw [Nat.zero_add, h.cell]
    match j, hj, i, hi with
    | 0, _, 0, _ | 0, _, 1, _ | 0, _, 2, _ | 0, _, 3, _ => subst h0; rfl
    | 1, _, 0, _ | 1, _, 1, _ | 1, _, 2, _ | 1, _, 3, _ => subst h1; rfl⟩
theorem blk_ts1 {w : World} {g : Nat} {t : TypeId} {a : Wk} {T : Nat → Wk} (h : Blk w g t #[.int .i64 a.prio, .int .u64 a.cost, .int .u64 a.per, .int .u64 a.dead]) (h0 : T 0 = a) : Ts w (some ⟨g, 0, none⟩) 1 T :=
  fun _ => ⟨g, 0, rfl, h.lt, fun j hj i hi => by
    rw [Nat.zero_add, h.cell]
    match j, hj, i, hi with
    | 0, _, 0, _ | 0, _, 1, _ | 0, _, 2, _ | 0, _, 3, _ => subst h0; rfl⟩
theorem blk_ls1 {w : World} {g : Nat} {t : TypeId} {a : Ld} {S : Nat → Ld} (h : Blk w g t #[.int .i64 a.b, .int .u64 a.per]) (h0 : S 0 = a) : Ls w (some ⟨g, 0, none⟩) 1 S :=
  fun _ => ⟨g, 0, rfl, h.lt, fun j hj i hi => by
    rw [Nat.zero_add, h.cell]
    match j, hj, i, hi with
    | 0, _, 0, _ | 0, _, 1, _ => subst h0; rfl⟩
theorem aw1 : timeO 2 Ta 0 S0 0 = some 1 := by decide +kernel
theorem aw2 : timeO 2 Ta 0 S0 1 = some 3 := by decide +kernel
theorem aw3 : allO 2 Ta 0 S0 := by decide +kernel
theorem aw4 : ¬ allO 3 (snoc Ta 2 ⟨3, 6, 12, 7⟩) 0 S0 := by decide +kernel
theorem aw5 : SOK 1 S1 := by decide +kernel
theorem aw6 : tkn (ldl S1 1) 11 = 4 := by decide +kernel
theorem aw7 : TkOK (ldl S1 1) := ldl_ok aw5.2 1 (Nat.le_refl _)
section
variable {w0 w : World} {A B : Option Addr} {n m cap capB : Nat} {T : Nat → Wk} {S : Nat → Ld} {L : List Res}
theorem extra_1 (rd : Ls w A 1 S1) :
    Calls Try.prog 19 #[.slice A 1 cap, .int .u64 11] w fun e w' => e = .returned (.int .u64 4) ∧ Below w.heap.size w w' := by
  have MS := Lib.hid (smay_c (cap := cap) rd (fun j _ => ⟨by show (-9223372036854775808 : Int) ≤ 2 ∧ (2 : Int) ≤ 9223372036854775807; omega, by show (0 : Int) ≤ 10 ∧ (10 : Int) ≤ 18446744073709551615; omega⟩) (by unfold maxLen; omega) true (decide_eq_true aw5).symm)
  have TK := Lib.hid (fun W (hW : Below w.heap.size w W) => takers_c (cap := cap) (rd.below hW) aw5)
  clear rd
  go_enter Try.func19, Try.ntmps19
  go_wp2_with fail
  refine MS.out.mono ?_
  rintro e w1 ⟨rfl, hb1⟩
  go_wp2_with fail
  refine (TK.out w1 hb1).mono ?_
  rintro e w2 ⟨C, cp, rfl, s2⟩
  have TC := Lib.hid (taken_c (cap := cp) (s2.tkrd 0 rfl) aw7 (by decide) 11 (by omega) (by omega) 4 (by rw [show (11 : Int).toNat = 11 from rfl, aw6]; rfl))
  have B2 := Lib.hid (below_then hb1 s2.below)
  clear s2
  go_wp2_with fail
  refine TC.out.mono ?_
  rintro e w3 ⟨rfl, hb3⟩
  go_wp2_with fail
  go_ret
  exact ⟨rfl, below_then B2.out hb3⟩
theorem awake_any (w : World) : Calls Try.prog 9 #[] w fun e w' => e = .returned (.bool true) ∧ Below w.heap.size w w' := by
  have b0 : Below w.heap.size w (w.alloc (.cells #[.int .i64 1, .int .u64 1, .int .u64 4, .int .u64 4, .int .i64 2, .int .u64 2, .int .u64 6, .int .u64 6] 26)) := (Below.refl _ _).alloc (Nat.le_refl _) _
  have t0 : Ts (w.alloc (.cells #[.int .i64 1, .int .u64 1, .int .u64 4, .int .u64 4, .int .i64 2, .int .u64 2, .int .u64 6, .int .u64 6] 26)) (some ⟨w.heap.size, 0, none⟩) 2 Ta := blk_ts2 (a := ⟨1, 1, 4, 4⟩) (b := ⟨2, 2, 6, 6⟩) (Blk.new w _ _) rfl rfl
  generalize hW : w.alloc (.cells #[.int .i64 1, .int .u64 1, .int .u64 4, .int .u64 4, .int .i64 2, .int .u64 2, .int .u64 6, .int .u64 6] 26) = W at *
  have TM := Lib.hid (fun V (hV : Below W.heap.size W V) i o ho => time_c (cap := 2) (capB := 0) (t0.below hV) (ls_nil V S0) (fun j hj => absurd hj (by omega)) (by unfold maxLen; omega) (by unfold maxLen; omega) i o ho)
  have AL := Lib.hid (fun V (hV : Below W.heap.size W V) => all_c (cap := 2) (capB := 0) (t0.below hV) (ls_nil V S0) (fun j hj => absurd hj (by omega)) (by unfold maxLen; omega) (by unfold maxLen; omega) true (decide_eq_true aw3).symm)
  have AD := Lib.hid (fun V (hV : Below W.heap.size W V) => admit_c (cap := 2) (capB := 0) (t0.below hV) (ls_nil V S0) (fun j hj => absurd hj (by omega)) (by omega) (fun h => by cases h) (by unfold maxLen; omega) ⟨3, 6, 12, 7⟩ false (decide_eq_false aw4).symm)
  clear t0
  go_enter Try.func9, Try.ntmps9
  go_wp2_with fail
  refine (TM.out W (Below.refl _ _) 0 _ aw1.symm).mono ?_
  rintro e w1 ⟨rfl, hb1⟩
  have B1 := Lib.hid hb1
  clear hb1
  go_wp2_with fail
  refine (TM.out w1 B1.out 1 _ aw2.symm).mono ?_
  rintro e w2 ⟨rfl, hb2⟩
  have B2 := Lib.hid (below_then B1.out hb2)
  clear hb2
  go_wp2_with fail
  refine (AL.out w2 B2.out).mono ?_
  rintro e w3 ⟨rfl, hb3⟩
  have B3 := Lib.hid (below_then B2.out hb3)
  clear hb3
  go_wp2_with fail
  refine (AD.out w3 B3.out).mono ?_
  rintro e w4 ⟨rfl, hb4⟩
  have B4 := Lib.hid (below_then B3.out hb4)
  clear hb4
  have EX := Lib.hid (extra_1 (cap := 1) (blk_ls1 (S := S1) (a := ⟨2, 10⟩) (Blk.new w4 28 #[.int .i64 2, .int .u64 10]) rfl))
  go_wp2_with fail
  refine EX.out.mono ?_
  rintro e w5 ⟨rfl, hb5⟩
  go_wp2_with fail
  go_ret
  exact ⟨rfl, below_then b0 (below_then B4.out (below_box hb5))⟩
theorem awake_o {w0 : World} {N0 : Nat → Prop} (H : St w0 N0 w L) : Calls Try.prog 9 #[] w fun e w' => e = .returned (.bool true) ∧ St w0 N0 w' L := looks (awake_any w) H
end
end Go.Proofs.Ythbghenikooagaa
