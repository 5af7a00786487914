/- Layer 18: how two requests are compared, by the library. -/
import Derived.Test.YtmikjbhhnndncaaOrdJ
import Derived.Deep.RegionHeld3
import Derived.Test.YtmikjbhhnndncaaSortW
namespace Go.Proofs.Ytmikjbhhnndncaa
open Go.RowKit
set_option linter.unusedVariables false
set_option maxRecDepth 100000
set_option maxHeartbeats 2000000
def cmpI (x y : Int) : Int := if x < y then -1 else if y < x then 1 else 0
theorem cmpI_c (x y : Int) (w : World) : Calls Try.prog 37 #[.int .i64 x, .int .i64 y] w fun e w' => e = .returned (.int .i64 (cmpI x y)) ∧ w = w' := by
  have n1 : (x != x) = false := by simp
  have n2 : (y != y) = false := by simp
  by_cases h1 : x < y
  · have H := Lib.hid (show cmpI x y = -1 by unfold cmpI; rw [if_pos h1])
    have d1 : decide (x < y) = true := decide_eq_true h1
    clear h1
    go_enter Try.func37, Try.ntmps37
    go_wp2
    go_ret
    exact ⟨by rw [H.out]; rfl, rfl⟩
  · have d1 : decide (x < y) = false := decide_eq_false h1
    by_cases h2 : y < x
    · have H := Lib.hid (show cmpI x y = 1 by unfold cmpI; rw [if_neg h1, if_pos h2])
      have d2 : decide (y < x) = true := decide_eq_true h2
      clear h1 h2
      go_enter Try.func37, Try.ntmps37
      go_wp2
      go_ret
      exact ⟨by rw [H.out]; rfl, rfl⟩
    · have H := Lib.hid (show cmpI x y = 0 by unfold cmpI; rw [if_neg h1, if_neg h2])
      have d2 : decide (y < x) = false := decide_eq_false h2
      clear h1 h2
      go_enter Try.func37, Try.ntmps37
      go_wp2
      go_ret
      exact ⟨by rw [H.out]; rfl, rfl⟩
theorem cmpU_c (x y : Int) (w : World) : Calls Try.prog 36 #[.int .u64 x, .int .u64 y] w fun e w' => e = .returned (.int .i64 (cmpI x y)) ∧ w = w' := by
  have n1 : (x != x) = false := by simp
  have n2 : (y != y) = false := by simp
  by_cases h1 : x < y
  · have H := Lib.hid (show cmpI x y = -1 by unfold cmpI; rw [if_pos h1])
    have d1 : decide (x < y) = true := decide_eq_true h1
    clear h1
    go_enter Try.func36, Try.ntmps36
    go_wp2
    go_ret
    exact ⟨by rw [H.out]; rfl, rfl⟩
  · have d1 : decide (x < y) = false := decide_eq_false h1
    by_cases h2 : y < x
    · have H := Lib.hid (show cmpI x y = 1 by unfold cmpI; rw [if_neg h1, if_pos h2])
      have d2 : decide (y < x) = true := decide_eq_true h2
      clear h1 h2
      go_enter Try.func36, Try.ntmps36
      go_wp2
      go_ret
      exact ⟨by rw [H.out]; rfl, rfl⟩
    · have H := Lib.hid (show cmpI x y = 0 by unfold cmpI; rw [if_neg h1, if_neg h2])
      have d2 : decide (y < x) = false := decide_eq_false h2
      clear h1 h2
      go_enter Try.func36, Try.ntmps36
      go_wp2
      go_ret
      exact ⟨by rw [H.out]; rfl, rfl⟩
/-- The first that isn't 0. -/
def orI (a b c : Int) : Int := if a ≠ 0 then a else if b ≠ 0 then b else c
theorem or_c (a b c : Int) (g : Nat) (w : World) (h0 : w.cell? ⟨g, 0, none⟩ = some (.int .i64 a)) (h1 : w.cell? ⟨g, 1, none⟩ = some (.int .i64 b)) (h2 : w.cell? ⟨g, 2, none⟩ = some (.int .i64 c)) :
    Calls Try.prog 35 #[.slice (some ⟨g, 0, none⟩) 3 3] w fun e w' => e = .returned (.int .i64 (orI a b c)) ∧ w = w' := by
  go_enter Try.func35, Try.ntmps35
  go_wp2_with fail
  go_loopw [5, 8] (fun x i wr => ∃ k : Nat, k ≤ 3 ∧ i = .int .i64 k ∧ ((1 ≤ k → a = 0) ∧ (2 ≤ k → b = 0) ∧ (3 ≤ k → c = 0)) ∧ wr = w) (fun _ i _ => 3 - (intOf i).toNat)
  case atStart => exact ⟨0, by omega, rfl, ⟨fun h => by omega, fun h => by omega, fun h => by omega⟩, rfl⟩
  case round =>
  obtain ⟨k, hk, rfl, hz, rfl⟩ := hrel
  have HZ := Lib.hid hz
  clear hz
  rcases (show k = 0 ∨ k = 1 ∨ k = 2 ∨ k = 3 by omega) with rfl | rfl | rfl | rfl
  · by_cases hv : a = 0
    · have HV := Lib.hid hv
      have z : (a != 0) = false := by simp [hv]
      clear hv
      go_wp2_with fail
      go_roundw
      case rel => first | exact ⟨1, by omega, rfl, ⟨fun _ => HV.out, fun h => by omega, fun h => by omega⟩, rfl⟩ | exact ⟨1, by omega, rfl, ⟨fun _ => HV.out, fun h => by omega, fun h => by omega⟩, trivial⟩
      case measure => simp [intOf]
    · have HO := Lib.hid (show orI a b c = a from by unfold orI; rw [if_pos hv])
      have z : (a != 0) = true := by simp [hv]
      clear hv
      go_wp2_with fail
      go_ret
      exact ⟨by rw [HO.out]; rfl, rfl⟩
  · by_cases hv : b = 0
    · have HV := Lib.hid hv
      have z : (b != 0) = false := by simp [hv]
      clear hv
      go_wp2_with fail
      go_roundw
      case rel => first | exact ⟨2, by omega, rfl, ⟨fun _ => HZ.out.1 (by omega), fun _ => HV.out, fun h => by omega⟩, rfl⟩ | exact ⟨2, by omega, rfl, ⟨fun _ => HZ.out.1 (by omega), fun _ => HV.out, fun h => by omega⟩, trivial⟩
      case measure => simp [intOf]
    · have HO := Lib.hid (show orI a b c = b from by unfold orI; rw [if_neg (fun h => h (HZ.out.1 (by omega))), if_pos hv])
      have z : (b != 0) = true := by simp [hv]
      clear hv
      go_wp2_with fail
      go_ret
      exact ⟨by rw [HO.out]; rfl, rfl⟩
  · by_cases hv : c = 0
    · have HV := Lib.hid hv
      have z : (c != 0) = false := by simp [hv]
      clear hv
      go_wp2_with fail
      go_roundw
      case rel => first | exact ⟨3, by omega, rfl, ⟨fun _ => HZ.out.1 (by omega), fun _ => HZ.out.2.1 (by omega), fun _ => HV.out⟩, rfl⟩ | exact ⟨3, by omega, rfl, ⟨fun _ => HZ.out.1 (by omega), fun _ => HZ.out.2.1 (by omega), fun _ => HV.out⟩, trivial⟩
      case measure => simp [intOf]
    · have HO := Lib.hid (show orI a b c = c from by unfold orI; rw [if_neg (fun h => h (HZ.out.1 (by omega))), if_neg (fun h => h (HZ.out.2.1 (by omega)))])
      have z : (c != 0) = true := by simp [hv]
      clear hv
      go_wp2_with fail
      go_ret
      exact ⟨by rw [HO.out]; rfl, rfl⟩
  · have HO := Lib.hid (show orI a b c = 0 from by unfold orI; rw [if_neg (fun h => h (HZ.out.1 (by omega))), if_neg (fun h => h (HZ.out.2.1 (by omega)))]; exact HZ.out.2.2 (by omega))
    go_wp2_with fail
    go_ret
    exact ⟨by rw [HO.out]; rfl, rfl⟩
def cfW (x y : Wt) : Int := orI (cmpI x.dead y.dead) (cmpI x.track y.track) (cmpI x.id y.id)
theorem all1_c (x y : Wt) (w : World) :
    Calls Try.prog 34 #[x.v, y.v] w fun e w' => e = .returned (.int .i64 (cfW x y)) ∧ ∃ q os', w' = Go.Sort.grow (w.drewN q) os' := by
  have u : St w None ((w.alloc (.cells #[.int .i64 x.id, .int .u64 x.dead, .int .i64 x.track] 32)).alloc (.cells #[.int .i64 y.id, .int .u64 y.dead, .int .i64 y.track] 32)) [BlkR w.heap.size 32 #[.int .i64 x.id, .int .u64 x.dead, .int .i64 x.track], BlkR (w.heap.size + 1) 32 #[.int .i64 y.id, .int .u64 y.dead, .int .i64 y.track]] := by
    have t := ((St.begin w).box 32 #[.int .i64 x.id, .int .u64 x.dead, .int .i64 x.track]).box 32 #[.int .i64 y.id, .int .u64 y.dead, .int .i64 y.track]
    rw [show (w.alloc (.cells #[.int .i64 x.id, .int .u64 x.dead, .int .i64 x.track] 32)).heap.size = w.heap.size + 1 by simp] at t
    exact t
  obtain ⟨a0, a1, a2⟩ := (u.blk 0 rfl).three
  obtain ⟨b0, b1, b2⟩ := (u.blk 1 rfl).three
  have f3 : ∀ p q r : Value, (((w.alloc (.cells #[.int .i64 x.id, .int .u64 x.dead, .int .i64 x.track] 32)).alloc (.cells #[.int .i64 y.id, .int .u64 y.dead, .int .i64 y.track] 32)).alloc (.cells #[p, q, r] 3)).drew.cell? ⟨w.heap.size + 1 + 1, 0, none⟩ = some p ∧ (((w.alloc (.cells #[.int .i64 x.id, .int .u64 x.dead, .int .i64 x.track] 32)).alloc (.cells #[.int .i64 y.id, .int .u64 y.dead, .int .i64 y.track] 32)).alloc (.cells #[p, q, r] 3)).drew.cell? ⟨w.heap.size + 1 + 1, 1, none⟩ = some q ∧ (((w.alloc (.cells #[.int .i64 x.id, .int .u64 x.dead, .int .i64 x.track] 32)).alloc (.cells #[.int .i64 y.id, .int .u64 y.dead, .int .i64 y.track] 32)).alloc (.cells #[p, q, r] 3)).drew.cell? ⟨w.heap.size + 1 + 1, 2, none⟩ = some r := by
    intro p q r
    have t := u.box 3 #[p, q, r]
    have t3 := (t.blk 2 rfl).three
    rw [show ((w.alloc (.cells #[.int .i64 x.id, .int .u64 x.dead, .int .i64 x.track] 32)).alloc (.cells #[.int .i64 y.id, .int .u64 y.dead, .int .i64 y.track] 32)).heap.size = w.heap.size + 1 + 1 by simp] at t3
    exact t3
  clear u
  unfold Wt.v
  go_enter Try.func34, Try.ntmps34
  go_wp2_with fail
  have qq := And.intro a0 (And.intro a1 (And.intro a2 (And.intro b0 (And.intro b1 b2))))
  go_region_held3 (fun W => W.cell? ⟨w.heap.size, 0, none⟩ = some (.int .i64 x.id) ∧ W.cell? ⟨w.heap.size, 1, none⟩ = some (.int .u64 x.dead) ∧ W.cell? ⟨w.heap.size, 2, none⟩ = some (.int .i64 x.track) ∧ W.cell? ⟨w.heap.size + 1, 0, none⟩ = some (.int .i64 y.id) ∧ W.cell? ⟨w.heap.size + 1, 1, none⟩ = some (.int .u64 y.dead) ∧ W.cell? ⟨w.heap.size + 1, 2, none⟩ = some (.int .i64 y.track)) (go_keep)
    (first
      | (go_at_call 36; refine (cmpU_c _ _ _).mono ?_; rintro r' w6 ⟨rfl, rfl⟩)
      | (go_at_call 37; refine (cmpI_c _ _ _).mono ?_; rintro r' w7 ⟨rfl, rfl⟩)
      | (go_at_call 35; refine (or_c (cmpI x.dead y.dead) (cmpI x.track y.track) (cmpI x.id y.id) (w.heap.size + 1 + 1) _ (f3 _ _ _).1 (f3 _ _ _).2.1 (f3 _ _ _).2.2).mono ?_; rintro r' w8 ⟨rfl, rfl⟩))
  clear f3 qq a0 a1 a2 b0 b1 b2
  go_wp2_with fail
  go_ret
  exact ⟨rfl, 1, _, by rw [Go.Sort.alloc_eq_grow, Go.Sort.alloc_eq_grow, Go.Sort.alloc_eq_grow, Go.Sort.grow_grow, Go.Sort.grow_grow]; rfl⟩
end Go.Proofs.Ytmikjbhhnndncaa
