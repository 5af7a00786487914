/- Layer 19: a new book. -/
import Derived.Test.YthdhfjcgboglfaaLifeG
namespace Go.Proofs.Ythdhfjcgboglfaa
open Go.RowKit
set_option linter.unusedVariables false
set_option maxRecDepth 100000
set_option maxHeartbeats 2000000
/-- The cells of a book that is being made. -/
def bnV (c : Int) (cw mb k : Nat) (j : Nat) : Value :=
  if j = 0 then .int .u64 c else if j = 1 then .pointer (some ⟨cw, 0, none⟩) else if j = 2 then .map (some mb) else if j < 67 then .int .i64 (if j - 3 < k then -1 else 0) else .slice none 0 0
def bZv (j : Nat) : Value := if j = 0 then .int .u64 0 else if j = 1 then .pointer none else if j = 2 then .map none else if j < 67 then .int .i64 0 else .slice none 0 0
def bZ : Array Value := ((List.range 68).map bZv).toArray
theorem zero_bk (w : World) : (zeroValue 65).run Try.prog w = .ok (.agg bZ) w := by kernel_rfl
def newA (c : Int) : Int := if c < 1 ∨ 1000 < c then 1 else 0
theorem slotO_none (id : Int) : slotO (fun _ => none) id = none := by
  unfold slotO
  rw [List.find?_eq_none]
  intro x hx h
  cases of_decide_eq_true h
theorem bk_new_ok {c : Int} (h : newA c = 0) : (Bk.new c).ok := by
  unfold newA at h
  split at h
  · cases h
  rename_i h
  have no : ∀ k x, (Bk.new c).op k ≠ some x := fun k x h => by cases (show (none : Option (Int × Int)) = some x from h)
  exact ⟨by show 1 ≤ c; omega, by show c ≤ 1000; omega, Int.le_refl 0, ⟨fun k x hx => absurd hx (no k x), fun j k x y hx _ _ => absurd hx (no j x)⟩, fun k x hx => absurd hx (no k x)⟩
theorem lNew_no (w : World) {c : Int} (hc : newA c ≠ 0) : Calls Try.prog 10 #[.int .u64 c] w fun e w' => e = .returned (.tuple #[.pointer none, .int .i64 1]) ∧ w = w' := by
  unfold newA at hc
  by_cases h : c < 1
  · have z0 : decide (c < 1) = true := decide_eq_true h
    clear hc
    go_enter Try.func10, Try.ntmps10
    go_wp2_with fail
    go_ret2
    exact ⟨rfl, rfl⟩
  by_cases h1 : 1000 < c
  · have z0 : decide (c < 1) = false := decide_eq_false h
    have z1 : decide (1000 < c) = true := decide_eq_true h1
    clear hc
    go_enter Try.func10, Try.ntmps10
    go_wp2_with fail
    go_ret2
    exact ⟨rfl, rfl⟩
  rw [if_neg (by omega)] at hc
  exact absurd rfl hc
theorem bn_end (c : Int) (cw mb j : Nat) (hj : j < 68) : bkV (Bk.new c) cw mb none 0 j = bnV c cw mb 64 j := by
  unfold bkV bnV
  by_cases e0 : j = 0
  · subst e0; rfl
  by_cases e1 : j = 1
  · subst e1; rfl
  by_cases e2 : j = 2
  · subst e2; rfl
  by_cases e3 : j < 67
  · rw [if_neg e0, if_neg e1, if_neg e2, if_pos e3, if_neg e0, if_neg e1, if_neg e2, if_pos e3, if_pos (by omega)]; rfl
  · rw [if_neg e0, if_neg e1, if_neg e2, if_neg e3, if_neg e0, if_neg e1, if_neg e2, if_neg e3]; rfl
theorem bn_put (c : Int) (cw mb k j : Nat) (hk : k < 64) : bnV c cw mb (k + 1) j = if j = 3 + k then .int .i64 (-1) else bnV c cw mb k j := by
  unfold bnV
  by_cases e0 : j = 0
  · subst e0; rw [if_pos rfl, if_neg (by omega), if_pos rfl]
  by_cases e1 : j = 1
  · subst e1; rw [if_neg e0, if_pos rfl, if_neg (by omega), if_neg e0, if_pos rfl]
  by_cases e2 : j = 2
  · subst e2; rw [if_neg e0, if_neg e1, if_pos rfl, if_neg (by omega), if_neg e0, if_neg e1, if_pos rfl]
  rw [if_neg e0, if_neg e1, if_neg e2, if_neg e0, if_neg e1, if_neg e2]
  by_cases e3 : j < 67
  · rw [if_pos e3, if_pos e3]
    by_cases e4 : j = 3 + k
    · rw [if_pos e4, if_pos (by omega)]
    · rw [if_neg e4]
      by_cases e5 : j - 3 < k
      · rw [if_pos e5, if_pos (by omega)]
      · rw [if_neg e5, if_neg (by omega)]
  · rw [if_neg e3, if_neg e3, if_neg (by omega)]
theorem bn_start (c : Int) (cw mb : Nat) (i : Nat) (hi : i < 68) : (((bZ.setIfInBounds 0 (.int .u64 c)).setIfInBounds 1 (.pointer (some ⟨cw, 0, none⟩))).setIfInBounds 2 (.map (some mb)))[i]? = some (bnV c cw mb 0 i) := by
  by_cases e2 : i = 2
  · subst e2; simp [bZ, bnV]
  rw [Array.getElem?_setIfInBounds_ne (by omega)]
  by_cases e1 : i = 1
  · subst e1; simp [bZ, bnV]
  rw [Array.getElem?_setIfInBounds_ne (by omega)]
  by_cases e0 : i = 0
  · subst e0; simp [bZ, bnV]
  rw [Array.getElem?_setIfInBounds_ne (by omega)]
  have e3 : bZ[i]? = some (bZv i) := by simp [bZ, hi]
  rw [e3]; unfold bZv bnV; rw [if_neg e0, if_neg e1, if_neg e2, if_neg e0, if_neg e1, if_neg e2]
  simp
theorem lNew_c (w : World) {c : Int} (hc : newA c = 0) : Calls Try.prog 10 #[.int .u64 c] w fun e w' => ∃ b cw mb, e = .returned (.tuple #[.pointer (some ⟨b, 0, none⟩), .int .i64 0]) ∧ St w None w' (BookL b cw mb none 0 (Bk.new c)) := by
  have zq := zero_bk
  have zs : bZ.size = 68 := by simp [bZ]
  have hmm := @run_makeMap Try.prog
  have h01 : 1 ≤ c ∧ c ≤ 1000 := by
    unfold newA at hc
    split at hc
    · cases hc
    · omega
  obtain ⟨h0, h1⟩ := h01
  have z0 : decide (c < 1) = false := decide_eq_false (by omega)
  have z1 : decide (1000 < c) = false := decide_eq_false (by omega)
  have WN := Lib.hid (wNew_o (St.begin w))
  clear hc
  go_enter Try.func10, Try.ntmps10
  go_wp2_with fail
  refine WN.out.mono ?_
  rintro e w1 ⟨cw, rfl, s1⟩
  have s2 := s1.mapz_new Try.prog 3
  have s3 := s2.box_arr 65 (((bZ.setIfInBounds 0 (.int .u64 c)).setIfInBounds 1 (.pointer (some ⟨cw, 0, none⟩))).setIfInBounds 2 (.map (some w1.heap.size))) 68 (bnV c cw w1.heap.size 0) (by simp [bZ]) (fun i hi => bn_start c cw _ i hi)
  rw [show (w1.alloc (.map #[] 0)).heap.size = w1.heap.size + 1 by simp] at s3
  have s4 := s3.comm (A := [WheelR cw 0 (fun _ => none), MapZR Try.prog 3 w1.heap.size 0 (fun _ => none)])
  have S4 := Lib.hid s4
  clear s1 s2 s3 s4 WN
  go_wp2_with fail
  go_loopw [17] (fun x wr => ∃ k : Nat, k ≤ 64 ∧ x = .int .i64 (k : Int) ∧ St w None wr [ArrR (w1.heap.size + 1) 65 68 (bnV c cw w1.heap.size k), WheelR cw 0 (fun _ => none), MapZR Try.prog 3 w1.heap.size 0 (fun _ => none)]) (fun x _ => 64 - (intOf x).toNat)
  case atStart => exact ⟨0, by omega, rfl, S4.out⟩
  case round =>
    clear S4
    obtain ⟨k, hk, rfl, sr⟩ := hrel
    generalize w1.heap.size = mb at *
    by_cases hlt : k < 64
    · have t1 : decide ((k : Int) < 64) = true := decide_eq_true (by omega)
      have t1' : decide (k < 64) = true := decide_eq_true hlt
      have v0 : (0 : Int) ≤ (k : Int) := by omega
      have c1 := sr.arr_cell 0 rfl (k := 3 + k) (by omega)
      have c2 := sr.arr_frozen 0 rfl (3 + k)
      unfold bnV at c1
      rw [if_neg (by omega), if_neg (by omega), if_neg (by omega), if_pos (by omega)] at c1
      have s5 := (sr.arr_set 0 rfl (k := 3 + k) (by omega) (.int .i64 (-1))).arr_like (V' := bnV c cw mb (k + 1)) 0 rfl (fun j hj => bn_put c cw mb k j hlt)
      have S5 := Lib.hid s5
      clear sr s5
      go_wp2_with fail
      go_roundw
      case rel => exact ⟨k + 1, by omega, by go_num, S5.out⟩
      case measure => simp [intOf]; omega
    · obtain rfl : k = 64 := by omega
      have S5 := Lib.hid sr
      clear sr
      go_wp2_with fail
      go_ret2
      refine ⟨_, cw, mb, rfl, ?_⟩
      have t := (S5.out.arr_like (V' := bkV (Bk.new c) cw mb none 0) 0 rfl (fun j hj => bn_end c cw mb j hj)).lis_nil 50 3
      have e1 : (Bk.new c).T = fun _ => none := by
        funext i; show (if 0 ≤ i ∧ i < 64 then none else none) = none; split <;> rfl
      have e2 : cntO (Bk.new c).op = 0 := cf_none 64
      have e3 : mapO (Bk.new c).op = fun _ => none := by
        funext i; unfold mapO; rw [show slotO (Bk.new c).op i = none from slotO_none i]; rfl
      unfold BookL
      rw [e1, e2, e3]
      exact t
theorem bNew_o {w0 w : World} {S0 : Nat → Prop} {L : List Res} {c : Int} (H : St w0 S0 w L) (hc : newA c = 0) : Calls Try.prog 10 #[.int .u64 c] w fun e w' => ∃ b, e = .returned (.tuple #[.pointer (some ⟨b, 0, none⟩), .int .i64 0]) ∧ St w0 S0 w' (L ++ [BookR b (Bk.new c)]) :=
  (lNew_c w hc).mono fun e w' ⟨b, cw, mb, he, s⟩ => ⟨b, he, by
    obtain ⟨S, hs, hd⟩ := s
    exact H.more hd.to_below (Star.one (BookR.ok _ _) ⟨bk_new_ok hc, cw, mb, none, 0, hs⟩) fun b hb => (hd.own b hb).resolve_left id⟩
end Go.Proofs.Ythdhfjcgboglfaa
