/- Layer 19: how two late requests are compared. -/
import Derived.Test.YthdhfjcgboglfaaLifeI
import Derived.Test.YthdhfjcgboglfaaLifeH
import Derived.Test.YthdhfjcgboglfaaSortV
namespace Go.Proofs.Ythdhfjcgboglfaa
open Go.RowKit
set_option linter.unusedVariables false
set_option maxRecDepth 100000
set_option maxHeartbeats 2000000
def cmpI (x y : Int) : Int := if x < y then -1 else if y < x then 1 else 0
theorem cmpI_c (x y : Int) (w : World) : Calls Try.prog 43 #[.int .i64 x, .int .i64 y] w fun e w' => e = .returned (.int .i64 (cmpI x y)) ∧ w = w' := by
  have n1 : (x != x) = false := by simp
  have n2 : (y != y) = false := by simp
  by_cases h1 : x < y
  · have H := Lib.hid (show cmpI x y = -1 by unfold cmpI; rw [if_pos h1])
    have d1 : decide (x < y) = true := decide_eq_true h1
    clear h1
    go_enter Try.func43, Try.ntmps43
    go_wp2
    go_ret
    exact ⟨by rw [H.out]; rfl, rfl⟩
  · have d1 : decide (x < y) = false := decide_eq_false h1
    by_cases h2 : y < x
    · have H := Lib.hid (show cmpI x y = 1 by unfold cmpI; rw [if_neg h1, if_pos h2])
      have d2 : decide (y < x) = true := decide_eq_true h2
      clear h1 h2
      go_enter Try.func43, Try.ntmps43
      go_wp2
      go_ret
      exact ⟨by rw [H.out]; rfl, rfl⟩
    · have H := Lib.hid (show cmpI x y = 0 by unfold cmpI; rw [if_neg h1, if_neg h2])
      have d2 : decide (y < x) = false := decide_eq_false h2
      clear h1 h2
      go_enter Try.func43, Try.ntmps43
      go_wp2
      go_ret
      exact ⟨by rw [H.out]; rfl, rfl⟩
theorem cmpU_c (x y : Int) (w : World) : Calls Try.prog 42 #[.int .u64 x, .int .u64 y] w fun e w' => e = .returned (.int .i64 (cmpI x y)) ∧ w = w' := by
  have n1 : (x != x) = false := by simp
  have n2 : (y != y) = false := by simp
  by_cases h1 : x < y
  · have H := Lib.hid (show cmpI x y = -1 by unfold cmpI; rw [if_pos h1])
    have d1 : decide (x < y) = true := decide_eq_true h1
    clear h1
    go_enter Try.func42, Try.ntmps42
    go_wp2
    go_ret
    exact ⟨by rw [H.out]; rfl, rfl⟩
  · have d1 : decide (x < y) = false := decide_eq_false h1
    by_cases h2 : y < x
    · have H := Lib.hid (show cmpI x y = 1 by unfold cmpI; rw [if_neg h1, if_pos h2])
      have d2 : decide (y < x) = true := decide_eq_true h2
      clear h1 h2
      go_enter Try.func42, Try.ntmps42
      go_wp2
      go_ret
      exact ⟨by rw [H.out]; rfl, rfl⟩
    · have H := Lib.hid (show cmpI x y = 0 by unfold cmpI; rw [if_neg h1, if_neg h2])
      have d2 : decide (y < x) = false := decide_eq_false h2
      clear h1 h2
      go_enter Try.func42, Try.ntmps42
      go_wp2
      go_ret
      exact ⟨by rw [H.out]; rfl, rfl⟩
/-- The first that isn't 0. -/
def or2 (a b : Int) : Int := if a ≠ 0 then a else b
theorem or2_c (a b : Int) (g : Nat) (w : World) (h0 : w.cell? ⟨g, 0, none⟩ = some (.int .i64 a)) (h1 : w.cell? ⟨g, 1, none⟩ = some (.int .i64 b)) :
    Calls Try.prog 41 #[.slice (some ⟨g, 0, none⟩) 2 2] w fun e w' => e = .returned (.int .i64 (or2 a b)) ∧ w = w' := by
  go_enter Try.func41, Try.ntmps41
  go_wp2_with fail
  go_loopw [5, 8] (fun x i wr => ∃ k : Nat, k ≤ 2 ∧ i = .int .i64 k ∧ ((1 ≤ k → a = 0) ∧ (2 ≤ k → b = 0)) ∧ wr = w) (fun _ i _ => 2 - (intOf i).toNat)
  case atStart => exact ⟨0, by omega, rfl, ⟨fun h => by omega, fun h => by omega⟩, rfl⟩
  case round =>
  obtain ⟨k, hk, rfl, hz, rfl⟩ := hrel
  have HZ := Lib.hid hz
  clear hz
  rcases (show k = 0 ∨ k = 1 ∨ k = 2 by omega) with rfl | rfl | rfl
  · by_cases hv : a = 0
    · have HV := Lib.hid hv
      have z : (a != 0) = false := by simp [hv]
      clear hv
      go_wp2_with fail
      go_roundw
      case rel => first | exact ⟨1, by omega, rfl, ⟨fun _ => HV.out, fun h => by omega⟩, rfl⟩ | exact ⟨1, by omega, rfl, ⟨fun _ => HV.out, fun h => by omega⟩, trivial⟩
      case measure => simp [intOf]
    · have HO := Lib.hid (show or2 a b = a from by unfold or2; rw [if_pos hv])
      have z : (a != 0) = true := by simp [hv]
      clear hv
      go_wp2_with fail
      go_ret
      exact ⟨by rw [HO.out]; rfl, rfl⟩
  · by_cases hv : b = 0
    · have HV := Lib.hid hv
      have z : (b != 0) = false := by simp [hv]
      clear hv
      go_wp2_with fail
      go_roundw
      case rel => first | exact ⟨2, by omega, rfl, ⟨fun _ => HZ.out.1 (by omega), fun _ => HV.out⟩, rfl⟩ | exact ⟨2, by omega, rfl, ⟨fun _ => HZ.out.1 (by omega), fun _ => HV.out⟩, trivial⟩
      case measure => simp [intOf]
    · have HO := Lib.hid (show or2 a b = b from by unfold or2; rw [if_neg (fun h => h (HZ.out.1 (by omega)))])
      have z : (b != 0) = true := by simp [hv]
      clear hv
      go_wp2_with fail
      go_ret
      exact ⟨by rw [HO.out]; rfl, rfl⟩
  · have HO := Lib.hid (show or2 a b = 0 from by unfold or2; rw [if_neg (fun h => h (HZ.out.1 (by omega)))]; exact HZ.out.2 (by omega))
    go_wp2_with fail
    go_ret
    exact ⟨by rw [HO.out]; rfl, rfl⟩
theorem dead_look {W : World} {mb n : Nat} {op : Nat → Option (Int × Int)} (hm : MapZ W Try.prog 3 mb n (mapO op)) {x : Int} (hx : wfI x) : ∃ t, (Instr.lookup 62 (.map (some mb)) (.int .i64 x) false).run Try.prog W = .ok (.agg #[.int .i64 t, .int .u64 (deadO op x)]) W := by
  have h := hm.mapi.look1 Try.underlying3 Try.underlying62 (YthdhfjcgboglfaazOpen W) hx
  unfold deadO
  cases hs : slotO op x with
  | none =>
    have e2 : mapO op x = none := by unfold mapO; rw [hs]; rfl
    rw [e2] at h
    exact ⟨0, h⟩
  | some k =>
    have e2 : mapO op x = some (mapF op k) := by unfold mapO; rw [hs]; rfl
    rw [e2] at h
    exact ⟨_, h⟩
theorem YthdhfjcgboglfaafldO (t u : Int) (W : World) : (Instr.field 67 (.agg #[.int .i64 t, .int .u64 u]) 1).run Try.prog W = .ok (.int .u64 u) W := by kernel_rfl
theorem late1_c {W : World} {q b mb n : Nat} {op : Nat → Option (Int × Int)} (hq : W.cell? ⟨q, 0, none⟩ = some (.pointer (some ⟨b, 0, none⟩))) (hb : W.cell? ⟨b, 2, none⟩ = some (.map (some mb))) (hm : MapZ W Try.prog 3 mb n (mapO op)) {x y : Int} (hx : wfI x) (hy : wfI y) :
    Calls Try.prog 40 #[.int .i64 x, .int .i64 y, .pointer (some ⟨q, 0, none⟩)] W fun e w' => e = .returned (.int .i64 (or2 (cmpI (deadO op x) (deadO op y)) (cmpI x y))) ∧ ∃ k os', w' = Go.Sort.grow (W.drewN k) os' := by
  have hm1 : MapZ W.drew Try.prog 3 mb n (mapO op) := hm.keep rfl
  obtain ⟨t1, l1⟩ := dead_look hm1 hx
  obtain ⟨t2, l2⟩ := dead_look hm1 hy
  have q1 : W.drew.cell? ⟨q, 0, none⟩ = some (.pointer (some ⟨b, 0, none⟩)) := hq
  have b1 : W.drew.cell? ⟨b, 2, none⟩ = some (.map (some mb)) := hb
  have a1 := fun (p r : Value) => (((St.begin W.drew).box 3 #[p, r]).blk 0 rfl).two
  have a1 : ∀ p r : Value, (W.drew.alloc (.cells #[p, r] 3)).cell? ⟨W.heap.size, 0, none⟩ = some p ∧ (W.drew.alloc (.cells #[p, r] 3)).cell? ⟨W.heap.size, 1, none⟩ = some r := a1
  obtain ⟨u, hu⟩ : ∃ u, deadO op x = u := ⟨_, rfl⟩
  obtain ⟨v, hv⟩ : ∃ v, deadO op y = v := ⟨_, rfl⟩
  rw [hu] at l1 ⊢
  rw [hv] at l2 ⊢
  have fo := YthdhfjcgboglfaafldO
  clear hm hm1 hu hv
  go_enter Try.func40, Try.ntmps40
  go_wp2_with fail
  go_region_law (first
    | (go_simp; refine (cmpU_c _ _ _).mono ?_; rintro e3 w3 ⟨rfl, rfl⟩)
    | (go_simp; refine (cmpI_c _ _ _).mono ?_; rintro e3 w3 ⟨rfl, rfl⟩)
    | (go_simp; refine (or2_c _ _ W.heap.size _ (a1 _ _).1 (a1 _ _).2).mono ?_; rintro e3 w3 ⟨rfl, rfl⟩))
  all_goals
    go_wp2_with fail
    go_ret
    exact ⟨rfl, 1, _, by rw [Go.Sort.alloc_eq_grow]; rfl⟩
end Go.Proofs.Ythdhfjcgboglfaa
