/- OrB: OrdX OrdTz OrdY in a namespace of their own. Printed by bin/nsgen.py. -/
import Derived.Test.YtcbhhajcgfiigaaGreatOrA
import Derived.Test.YtcbhhajcgfiigaaGreatSortJ
import Derived.Test.YtcbhhajcgfiigaaGreatLifB
import Derived.Deep.RegionHeld3
import Derived.Test.YtcbhhajcgfiigaaGreatSortW
namespace Go.Proofs.YtcbhhajcgfiigaaGreat
open Go.RowKit
namespace od
section
set_option linter.unusedVariables false
set_option maxRecDepth 100000
set_option maxHeartbeats 2000000
def cmpI (x y : Int) : Int := if x < y then -1 else if y < x then 1 else 0
theorem cmpI_c (x y : Int) (w : World) : Calls Tryz.prog 122 #[.int .i64 x, .int .i64 y] w fun e w' => e = .returned (.int .i64 (cmpI x y)) ∧ w = w' := by
  have n1 : (x != x) = false := by simp
  have n2 : (y != y) = false := by simp
  by_cases h1 : x < y
  · have H := Lib.hid (show cmpI x y = -1 by unfold cmpI; rw [if_pos h1])
    have d1 : decide (x < y) = true := decide_eq_true h1
    clear h1
    go_enter Tryz.func122, Tryz.ntmps122
    go_wp2
    go_ret
    exact ⟨by rw [H.out]; rfl, rfl⟩
  · have d1 : decide (x < y) = false := decide_eq_false h1
    by_cases h2 : y < x
    · have H := Lib.hid (show cmpI x y = 1 by unfold cmpI; rw [if_neg h1, if_pos h2])
      have d2 : decide (y < x) = true := decide_eq_true h2
      clear h1 h2
      go_enter Tryz.func122, Tryz.ntmps122
      go_wp2
      go_ret
      exact ⟨by rw [H.out]; rfl, rfl⟩
    · have H := Lib.hid (show cmpI x y = 0 by unfold cmpI; rw [if_neg h1, if_neg h2])
      have d2 : decide (y < x) = false := decide_eq_false h2
      clear h1 h2
      go_enter Tryz.func122, Tryz.ntmps122
      go_wp2
      go_ret
      exact ⟨by rw [H.out]; rfl, rfl⟩
theorem cmpU_c (x y : Int) (w : World) : Calls Tryz.prog 121 #[.int .u64 x, .int .u64 y] w fun e w' => e = .returned (.int .i64 (cmpI x y)) ∧ w = w' := by
  have n1 : (x != x) = false := by simp
  have n2 : (y != y) = false := by simp
  by_cases h1 : x < y
  · have H := Lib.hid (show cmpI x y = -1 by unfold cmpI; rw [if_pos h1])
    have d1 : decide (x < y) = true := decide_eq_true h1
    clear h1
    go_enter Tryz.func121, Tryz.ntmps121
    go_wp2
    go_ret
    exact ⟨by rw [H.out]; rfl, rfl⟩
  · have d1 : decide (x < y) = false := decide_eq_false h1
    by_cases h2 : y < x
    · have H := Lib.hid (show cmpI x y = 1 by unfold cmpI; rw [if_neg h1, if_pos h2])
      have d2 : decide (y < x) = true := decide_eq_true h2
      clear h1 h2
      go_enter Tryz.func121, Tryz.ntmps121
      go_wp2
      go_ret
      exact ⟨by rw [H.out]; rfl, rfl⟩
    · have H := Lib.hid (show cmpI x y = 0 by unfold cmpI; rw [if_neg h1, if_neg h2])
      have d2 : decide (y < x) = false := decide_eq_false h2
      clear h1 h2
      go_enter Tryz.func121, Tryz.ntmps121
      go_wp2
      go_ret
      exact ⟨by rw [H.out]; rfl, rfl⟩
/-- The first that isn't 0. -/
def orI (a b c : Int) : Int := if a ≠ 0 then a else if b ≠ 0 then b else c
theorem or_c (a b c : Int) (g : Nat) (w : World) (h0 : w.cell? ⟨g, 0, none⟩ = some (.int .i64 a)) (h1 : w.cell? ⟨g, 1, none⟩ = some (.int .i64 b)) (h2 : w.cell? ⟨g, 2, none⟩ = some (.int .i64 c)) :
    Calls Tryz.prog 120 #[.slice (some ⟨g, 0, none⟩) 3 3] w fun e w' => e = .returned (.int .i64 (orI a b c)) ∧ w = w' := by
  go_enter Tryz.func120, Tryz.ntmps120
  go_wp2_with fail
  go_loopw [5, 8] (fun x i wr => ∃ k : Nat, k ≤ 3 ∧ i = .int .i64 k ∧ ((1 ≤ k → a = 0) ∧ (2 ≤ k → b = 0) ∧ (3 ≤ k → c = 0)) ∧ wr = w) (fun _ i _ => 3 - (intOf i).toNat)
  case atStart => exact ⟨0, by omega, rfl, ⟨fun h => by omega, fun h => by omega, fun h => by omega⟩, rfl⟩
  case round =>
  obtain ⟨k, hk, rfl, hz, rfl⟩ := hrel
  have HZ := Lib.hid hz
  clear hz
  rcases (show k = 0 ∨ k = 1 ∨ k = 2 ∨ k = 3 by omega) with rfl | rfl | rfl | rfl
  · by_cases hv : a = 0
    · have HV := Lib.hid hv
      have z : (a != 0) = false := by simp [hv]
      clear hv
      go_wp2_with fail
      go_roundw
      case rel => first | exact ⟨1, by omega, rfl, ⟨fun _ => HV.out, fun h => by omega, fun h => by omega⟩, rfl⟩ | exact ⟨1, by omega, rfl, ⟨fun _ => HV.out, fun h => by omega, fun h => by omega⟩, trivial⟩
      case measure => simp [intOf]
    · have HO := Lib.hid (show orI a b c = a from by unfold orI; rw [if_pos hv])
      have z : (a != 0) = true := by simp [hv]
      clear hv
      go_wp2_with fail
      go_ret
      exact ⟨by rw [HO.out]; rfl, rfl⟩
  · by_cases hv : b = 0
    · have HV := Lib.hid hv
      have z : (b != 0) = false := by simp [hv]
      clear hv
      go_wp2_with fail
      go_roundw
      case rel => first | exact ⟨2, by omega, rfl, ⟨fun _ => HZ.out.1 (by omega), fun _ => HV.out, fun h => by omega⟩, rfl⟩ | exact ⟨2, by omega, rfl, ⟨fun _ => HZ.out.1 (by omega), fun _ => HV.out, fun h => by omega⟩, trivial⟩
      case measure => simp [intOf]
    · have HO := Lib.hid (show orI a b c = b from by unfold orI; rw [if_neg (fun h => h (HZ.out.1 (by omega))), if_pos hv])
      have z : (b != 0) = true := by simp [hv]
      clear hv
      go_wp2_with fail
      go_ret
      exact ⟨by rw [HO.out]; rfl, rfl⟩
  · by_cases hv : c = 0
    · have HV := Lib.hid hv
      have z : (c != 0) = false := by simp [hv]
      clear hv
      go_wp2_with fail
      go_roundw
      case rel => first | exact ⟨3, by omega, rfl, ⟨fun _ => HZ.out.1 (by omega), fun _ => HZ.out.2.1 (by omega), fun _ => HV.out⟩, rfl⟩ | exact ⟨3, by omega, rfl, ⟨fun _ => HZ.out.1 (by omega), fun _ => HZ.out.2.1 (by omega), fun _ => HV.out⟩, trivial⟩
      case measure => simp [intOf]
    · have HO := Lib.hid (show orI a b c = c from by unfold orI; rw [if_neg (fun h => h (HZ.out.1 (by omega))), if_neg (fun h => h (HZ.out.2.1 (by omega)))])
      have z : (c != 0) = true := by simp [hv]
      clear hv
      go_wp2_with fail
      go_ret
      exact ⟨by rw [HO.out]; rfl, rfl⟩
  · have HO := Lib.hid (show orI a b c = 0 from by unfold orI; rw [if_neg (fun h => h (HZ.out.1 (by omega))), if_neg (fun h => h (HZ.out.2.1 (by omega)))]; exact HZ.out.2.2 (by omega))
    go_wp2_with fail
    go_ret
    exact ⟨by rw [HO.out]; rfl, rfl⟩
def cfW (x y : Wt) : Int := orI (cmpI x.dead y.dead) (cmpI x.track y.track) (cmpI x.id y.id)
theorem all1_c (x y : Wt) (w : World) :
    Calls Tryz.prog 119 #[x.v, y.v] w fun e w' => e = .returned (.int .i64 (cfW x y)) ∧ ∃ q os', w' = Go.Sort.grow (w.drewN q) os' := by
  have u : St w None ((w.alloc (.cells #[.int .i64 x.id, .int .u64 x.dead, .int .i64 x.track] 127)).alloc (.cells #[.int .i64 y.id, .int .u64 y.dead, .int .i64 y.track] 127)) [BlkR w.heap.size 127 #[.int .i64 x.id, .int .u64 x.dead, .int .i64 x.track], BlkR (w.heap.size + 1) 127 #[.int .i64 y.id, .int .u64 y.dead, .int .i64 y.track]] := by
    have t := ((St.begin w).box 127 #[.int .i64 x.id, .int .u64 x.dead, .int .i64 x.track]).box 127 #[.int .i64 y.id, .int .u64 y.dead, .int .i64 y.track]
    rw [show (w.alloc (.cells #[.int .i64 x.id, .int .u64 x.dead, .int .i64 x.track] 127)).heap.size = w.heap.size + 1 by simp] at t
    exact t
  obtain ⟨a0, a1, a2⟩ := (u.blk 0 rfl).three
  obtain ⟨b0, b1, b2⟩ := (u.blk 1 rfl).three
  have f3 : ∀ p q r : Value, (((w.alloc (.cells #[.int .i64 x.id, .int .u64 x.dead, .int .i64 x.track] 127)).alloc (.cells #[.int .i64 y.id, .int .u64 y.dead, .int .i64 y.track] 127)).alloc (.cells #[p, q, r] 3)).drew.cell? ⟨w.heap.size + 1 + 1, 0, none⟩ = some p ∧ (((w.alloc (.cells #[.int .i64 x.id, .int .u64 x.dead, .int .i64 x.track] 127)).alloc (.cells #[.int .i64 y.id, .int .u64 y.dead, .int .i64 y.track] 127)).alloc (.cells #[p, q, r] 3)).drew.cell? ⟨w.heap.size + 1 + 1, 1, none⟩ = some q ∧ (((w.alloc (.cells #[.int .i64 x.id, .int .u64 x.dead, .int .i64 x.track] 127)).alloc (.cells #[.int .i64 y.id, .int .u64 y.dead, .int .i64 y.track] 127)).alloc (.cells #[p, q, r] 3)).drew.cell? ⟨w.heap.size + 1 + 1, 2, none⟩ = some r := by
    intro p q r
    have t := u.box 3 #[p, q, r]
    have t3 := (t.blk 2 rfl).three
    rw [show ((w.alloc (.cells #[.int .i64 x.id, .int .u64 x.dead, .int .i64 x.track] 127)).alloc (.cells #[.int .i64 y.id, .int .u64 y.dead, .int .i64 y.track] 127)).heap.size = w.heap.size + 1 + 1 by simp] at t3
    exact t3
  clear u
  unfold Wt.v
  go_enter Tryz.func119, Tryz.ntmps119
  go_wp2_with fail
  have qq := And.intro a0 (And.intro a1 (And.intro a2 (And.intro b0 (And.intro b1 b2))))
  go_region_held3 (fun W => W.cell? ⟨w.heap.size, 0, none⟩ = some (.int .i64 x.id) ∧ W.cell? ⟨w.heap.size, 1, none⟩ = some (.int .u64 x.dead) ∧ W.cell? ⟨w.heap.size, 2, none⟩ = some (.int .i64 x.track) ∧ W.cell? ⟨w.heap.size + 1, 0, none⟩ = some (.int .i64 y.id) ∧ W.cell? ⟨w.heap.size + 1, 1, none⟩ = some (.int .u64 y.dead) ∧ W.cell? ⟨w.heap.size + 1, 2, none⟩ = some (.int .i64 y.track)) (go_keep)
    (first
      | (go_at_call 121; refine (cmpU_c _ _ _).mono ?_; rintro r' w6 ⟨rfl, rfl⟩)
      | (go_at_call 122; refine (cmpI_c _ _ _).mono ?_; rintro r' w7 ⟨rfl, rfl⟩)
      | (go_at_call 120; refine (or_c (cmpI x.dead y.dead) (cmpI x.track y.track) (cmpI x.id y.id) (w.heap.size + 1 + 1) _ (f3 _ _ _).1 (f3 _ _ _).2.1 (f3 _ _ _).2.2).mono ?_; rintro r' w8 ⟨rfl, rfl⟩))
  clear f3 qq a0 a1 a2 b0 b1 b2
  go_wp2_with fail
  go_ret
  exact ⟨rfl, 1, _, by rw [Go.Sort.alloc_eq_grow, Go.Sort.alloc_eq_grow, Go.Sort.alloc_eq_grow, Go.Sort.grow_grow, Go.Sort.grow_grow]; rfl⟩
end
section
set_option linter.unusedVariables false
set_option maxRecDepth 100000
set_option maxHeartbeats 2000000
section
variable {w0 w w' : World} {S0 S : Nat → Prop} {N L : List Res} {q : Nat} {s s' : OSt}
theorem ins_0 (A : Option Addr) (c : Nat) (f : Value) (w : World) : Calls Tryz.prog 148 #[.slice A 0 c, .int .i64 0, .int .i64 0, f] w fun e w' => e = .returned (.tuple #[]) ∧ w = w' := by
  go_enter Tryz.func148, Tryz.ntmps148
  go_wp2_with fail
  go_loopw [8] (fun i wr => i = .int .i64 1 ∧ wr = w) (fun i _ => 0)
  case atStart => exact ⟨rfl, rfl⟩
  case round =>
  obtain ⟨rfl, rfl⟩ := hrel
  go_wp2_with fail
  go_end0
  exact ⟨rfl, rfl⟩
theorem pdq_0 (A : Option Addr) (c : Nat) (f : Value) (w : World) : Calls Tryz.prog 138 #[.slice A 0 c, .int .i64 0, .int .i64 0, .int .i64 0, f] w fun e w' => e = .returned (.tuple #[]) ∧ w = w' := by
  have IC := Lib.hid (ins_0 A c f w)
  go_enter Tryz.func138, Tryz.ntmps138
  go_wp2_with fail
  go_loopw [1, 2, 3] (fun a b l wr => a = .int .i64 0 ∧ b = .int .i64 0 ∧ l = .int .i64 0 ∧ wr = w) (fun _ _ _ _ => 0)
  case atStart => exact ⟨rfl, rfl, rfl, rfl⟩
  case round =>
  obtain ⟨rfl, rfl, rfl, rfl⟩ := hrel
  go_wp2_with fail
  refine IC.out.mono ?_
  rintro e w1 ⟨rfl, rfl⟩
  go_wp2_with fail
  refine bodyPost_ret (v := .tuple #[]) ?_ rfl ⟨rfl, rfl⟩
  simp [results, go_sem]
theorem sort_0 (A : Option Addr) (c : Nat) (f : Value) (w : World) : Calls Tryz.prog 118 #[.slice A 0 c, f] w fun e w' => e = .returned (.tuple #[]) ∧ w = w' := by
  have LC := Lib.hid (len_0 w)
  have PC := Lib.hid (pdq_0 A c f w)
  go_enter Tryz.func118, Tryz.ntmps118
  go_wp2_with fail
  refine LC.out.mono ?_
  rintro e w1 ⟨rfl, rfl⟩
  go_wp2_with fail
  refine PC.out.mono ?_
  rintro e w1 ⟨rfl, rfl⟩
  go_wp2_with fail
  go_end0
  exact ⟨rfl, rfl⟩
end
end
section
open Go.Sort hiding Below
set_option linter.unusedVariables false
set_option maxRecDepth 100000
set_option maxHeartbeats 2000000
instance : Inhabited Wt := ⟨⟨0, 0, 0⟩⟩
def encW (x : Wt) : List Value := [.int .i64 x.id, .int .u64 x.dead, .int .i64 x.track]
/-- By times, then tracks, then numbers. -/
def lt3 (x y : Wt) : Prop := x.dead < y.dead ∨ (x.dead = y.dead ∧ (x.track < y.track ∨ (x.track = y.track ∧ x.id < y.id)))
theorem cmpI_ways (a b : Int) : (a < b ∧ cmpI a b = -1) ∨ (a = b ∧ cmpI a b = 0) ∨ (b < a ∧ cmpI a b = 1) := by
  unfold cmpI
  by_cases h1 : a < b
  · rw [if_pos h1]; exact Or.inl ⟨h1, rfl⟩
  · rw [if_neg h1]
    by_cases h2 : b < a
    · rw [if_pos h2]; exact Or.inr (Or.inr ⟨h2, rfl⟩)
    · rw [if_neg h2]; exact Or.inr (Or.inl ⟨by omega, rfl⟩)
theorem cf_lt (x y : Wt) : cfW x y < 0 ↔ lt3 x y := by
  unfold cfW orI lt3
  rcases cmpI_ways x.dead y.dead with ⟨h1, e1⟩ | ⟨h1, e1⟩ | ⟨h1, e1⟩ <;> rcases cmpI_ways x.track y.track with ⟨h2, e2⟩ | ⟨h2, e2⟩ | ⟨h2, e2⟩ <;> rcases cmpI_ways x.id y.id with ⟨h3, e3⟩ | ⟨h3, e3⟩ | ⟨h3, e3⟩ <;>
    (rw [e1, e2, e3]; simp; omega)
theorem lt_of (x y : Wt) : ltOf cfW x y = true ↔ lt3 x y := by
  unfold ltOf
  rw [decide_eq_true_iff]
  exact cf_lt x y
theorem lt_off (x y : Wt) : ltOf cfW x y = false ↔ ¬ lt3 x y := by
  rw [← lt_of]; simp
theorem swoW : SWO (ltOf cfW) where
  irrefl x := by rw [lt_off]; unfold lt3; omega
  trans x y z h1 h2 := by rw [lt_of] at *; unfold lt3 at *; omega
  ntrans x y z h1 h2 := by rw [lt_off] at *; unfold lt3 at *; omega
theorem flat_ovs (l : List Wt) : flatK encW 3 l.toArray = (ovs l).toArray := by
  refine ext_get! (by simp [ovs_len]) fun t ht => ?_
  have ht' : t < l.length * 3 := by simpa using ht
  rw [get_flatK _ _ _ _ (by simpa using ht')]
  have hq : t / 3 < l.length := by omega
  obtain ⟨x, hx⟩ : ∃ x, l[t / 3]? = some x := ⟨_, List.getElem?_eq_getElem hq⟩
  have hd : (l.toArray)[t / 3]! = x := by simp [hx]
  rw [hd]
  obtain ⟨h0, h1, h2⟩ := ovs_at l (t / 3) x hx
  have hc : ∀ v, (ovs l)[t]? = some v → (ovs l).toArray[t]! = v := fun v hv => by simp [hv]
  rcases (show t % 3 = 0 ∨ t % 3 = 1 ∨ t % 3 = 2 by omega) with e | e | e
  · rw [e, hc _ ((congrArg _ (by omega)).trans h0)]; rfl
  · rw [e, hc _ ((congrArg _ (by omega)).trans h1)]; rfl
  · rw [e, hc _ ((congrArg _ (by omega)).trans h2)]; rfl
theorem put_cells {w : World} {g off : Nat} {F : Array Value} {vs : List Value} (h : Holds id w g off F) (hs : F.size = vs.length) : putRow id w g off vs.toArray = w.setCells g off vs := by
  have h1 := setCells_putRow w g off vs 0 F (by omega)
  rw [putRow_self id w g off F h] at h1
  have h2 : setMany F 0 vs = vs.toArray := ext_get! (by simp [hs]) fun t ht => by
    have ht' : t < F.size := by simpa using ht
    rw [get_setMany _ _ _ _ ht', if_pos (by omega)]
    simp
  rw [h2] at h1
  exact h1.symm
section
variable {w0 w w' : World} {S0 S : Nat → Prop} {N L : List Res} {q : Nat} {s s' : OSt}

theorem cmpLays (g off n : Nat) (w : World) : CmpLays Tryz.prog 119 #[] encW 3 cfW g off n w :=
  fun _ _ _ _ x y => all1_c x y _
theorem sort_o {g off n c i : Nat} {l : List Wt} (H : St w0 S0 w L) (hi : L[i]? = some (LisR 127 3 (.slice (some ⟨g, off, none⟩) n c) n (ovs l))) (hn1 : n ≤ 1000) (hn0 : 0 < n) :
    Calls Tryz.prog 118 #[.slice (some ⟨g, off, none⟩) n c, .func (.func 119) #[] #[]] w fun e w' => e = .returned (.tuple #[]) ∧ ∃ l', l'.Perm l ∧ (∀ (a b : Nat) x y, a < b → l'[a]? = some x → l'[b]? = some y → ¬ lt3 y x) ∧
      St w0 S0 w' (L.set i (LisR 127 3 (.slice (some ⟨g, off, none⟩) n c) n (ovs l'))) := by
  have h := H.lis i hi
  have hl := lis_len h
  have hol : (ovs l).length = n * 3 := by rw [ovs_len, hl]
  have eg : ∀ args w, (callFunc 119 args).run Tryz.prog w = .ok (.enter 119 args) w := enters_of Tryz.func119 (by kernel_rfl) rfl
  have hc := (h.reads.2.resolve_left (by omega))
  obtain ⟨g', off', hA, hc⟩ := hc
  injection hA with hA
  injection hA with e1 e2
  subst e1 e2
  have hF : Holds id w g off (ovs l).toArray := fun j hj => by
    have hj' : j < (ovs l).length := by simpa using hj
    refine ⟨?_, h.frozen _⟩
    have := hc j _ (List.getElem?_eq_getElem hj')
    rw [this]; simp [hj']
  have hH : HoldsK encW 3 w g off l.toArray := by unfold HoldsK; rw [flat_ovs]; exact hF
  have hsz : l.toArray.size = n := by simp [hl]
  have hcon := AnyQ.slices_SortFunc sortW 3 Tryz.isAgg127 Tryz.sizeOf127 encW (fun _ => rfl) (fun x v hv => by simp [encW] at hv; rcases hv with rfl | rfl | rfl <;> rfl) cfW swoW 119 #[] g off c l.toArray w eg (cmpLays g off _ w) hH (h.lt rfl) (by rw [hsz]; omega)
  rw [hsz] at hcon
  change Calls Tryz.prog 118 _ _ _ at hcon
  refine hcon.mono ?_
  rintro e w' ⟨rfl, d', m, os, hp, hs, rfl⟩
  have hd : d'.size = n := by rw [hp.1, hsz]
  have hpl : d'.toList.Perm l := by
    have := hp.2.2
    rwa [← hd, Array.extract_size, hd, ← hsz, Array.extract_size] at this
  refine ⟨rfl, d'.toList, hpl, fun a b x y hab hx hy => ?_, ?_⟩
  · have hb : b < d'.toList.length := (List.getElem?_eq_some_iff.1 hy).1
    have := hs a b (Nat.zero_le _) hab (by simpa [hd] using hb)
    rw [lt_off] at this
    have ex : d'[a]! = x := by simp only [Array.getElem?_toList] at hx; rw [getElem!_def, hx]
    have ey : d'[b]! = y := by simp only [Array.getElem?_toList] at hy; rw [getElem!_def, hy]
    rwa [ex, ey] at this
  · have hv : (ovs d'.toList).length = n * 3 := by rw [ovs_len]; simp [hd]
    have hw : sortWorldK encW 3 w g off m d' os = grow ((w.drewN m).setCells g off (ovs d'.toList)) os := by
      unfold sortWorldK putRowK
      rw [show d' = d'.toList.toArray by simp, flat_ovs, put_cells (F := (ovs l).toArray) (w := Go.Sort.ahead w m) hF (by simp [hol, hv])]
      simp
      rfl
    rw [hw]
    refine St.grown ?_ os
    have hk : Lis (w.drewN m) 127 3 (.slice (some ⟨g, off, none⟩) n c) n (ovs l) := h.keep fun _ _ => rfl
    obtain ⟨h1, h2⟩ := lis_within_m hk 0 (ovs d'.toList) (by omega) hn0
    rw [Nat.add_zero, List.take_zero, List.nil_append, List.drop_of_length_le (by omega), List.append_nil] at h1
    rw [Nat.add_zero] at h2
    exact (H.drewN m).lis_only i hi h1 h2
theorem clone_c {A : Option Addr} {c n : Nat} {l : List Wt} (w : World) (hr : Rds w A n 3 (ovs l)) (hn1 : n ≤ 1000) : Calls Tryz.prog 117 #[.slice A n c] w fun e w' => ∃ B d, e = .returned (.slice B n d) ∧ St w None w' [LisR 127 3 (.slice B n d) n (ovs l)] := by
  obtain ⟨iI, hiI, hzI, hsI, hbI⟩ := info3o Tryz.infoWant
  cases A with
  | none =>
    obtain rfl : n = 0 := by
      rcases hr.2 with h | ⟨g, off, h, _⟩
      · exact h
      · cases h
    have hl0 : ovs l = [] := List.eq_nil_of_length_eq_zero (by have := hr.1; omega)
    have s1 : St w None w [LisR 127 3 (.slice none 0 0) 0 (ovs l)] := by rw [hl0]; exact (St.begin w).lis_nil 127 3
    have S1 := Lib.hid s1
    clear s1 hl0 hr
    have NY : ∀ W, (binOp .eql 79 (.slice none 0 c) (.slice none 0 0)).run Tryz.prog W = .ok (.bool true) W := fun W => by rfl
    go_enter Tryz.func117, Tryz.ntmps117
    go_wp2_with fail
    go_ret
    exact ⟨none, 0, rfl, S1.out⟩
  | some a =>
    have NN : ∀ W, (binOp .eql 79 (.slice (some a) n c) (.slice none 0 0)).run Tryz.prog W = .ok (.bool false) W := fun W => by rfl
    have s1 : St w None (w.alloc (.cells #[] 127)) [LisR 127 3 (.slice (some ⟨w.heap.size, 0, none⟩) 0 0) 0 []] := (St.begin w).lis_new 127 3 0 #[] rfl (by unfold maxLen; omega)
    have HL := Lib.hid (show Lis (w.alloc (.cells #[] 127)) 127 3 (.slice (some ⟨w.heap.size, 0, none⟩) 0 0) 0 [] from s1.lis 0 rfl)
    have RB := Lib.hid (show Rds (w.alloc (.cells #[] 127)) (some a) n 3 (ovs l) from ⟨hr.1, hr.2.imp id fun ⟨g, off, h1, h2⟩ => ⟨g, off, h1, fun j u hu => cell_alloc (h2 j u hu) _⟩⟩)
    have S1 := Lib.hid s1
    have HN := Lib.hid hn1
    clear s1 hr
    go_enter Tryz.func117, Tryz.ntmps117
    go_wp2_with (at_builtin; refine wpList_lis rfl (.tmp 5) (.tmp 6) 79 rfl 127 iI (.agg #[.int .i64 0, .int .u64 0, .int .i64 0]) 3 24 Tryz.underlying79 hiI hzI hsI hbI rfl (by decide) _ _ _ rfl HL.out (some a) n c (ovs l) rfl RB.out (ovs_one l) (by have := HN.out; unfold maxLen; omega) (by omega) ?_; intro B d w4 hl hg hat; rw [Nat.zero_add] at hl hat ⊢; have t4 := S1.out.lis_put 0 rfl hl hg hat; have T4 := Lib.hid (show St w None w4 [LisR 127 3 (.slice B n d) n (ovs l)] from t4); clear hl hg hat t4)
    go_wp2_with fail
    go_ret
    exact ⟨B, d, rfl, T4.out⟩
/-- All that wait, told in the order asked. -/
def AllP (s : OSt) (w0 : World) (S0 : Nat → Prop) (L : List Res) (e : Ending) (w' : World) : Prop :=
  ∃ B d l', e = .returned (.slice B s.l.length d) ∧ l'.Perm s.l ∧ (∀ (a b : Nat) x y, a < b → l'[a]? = some x → l'[b]? = some y → ¬ lt3 y x) ∧ St w0 S0 w' (L ++ [LisR 127 3 (.slice B s.l.length d) s.l.length (ovs l')])
theorem All_c (h : OQR q s w S) (hs : s.ok) : Calls Tryz.prog 82 #[.pointer (some ⟨q, 0, none⟩)] w (AllP s w None []) := by
  have hlen := hs.len
  obtain ⟨A, c, hh⟩ := h
  have c0 : w.cell? ⟨q, 0, none⟩ = some (.slice A s.l.length c) := ((St.start hh).blk 0 rfl).three.1
  have CL := Lib.hid (clone_c (A := A) (c := c) (l := s.l) w ((St.start hh).lis 1 rfl).reads (by omega))
  obtain ⟨n, hn⟩ : ∃ n, n = s.l.length := ⟨_, rfl⟩
  have HN := Lib.hid hn
  have HLE := Lib.hid (show n ≤ 1000 by omega)
  unfold AllP
  rw [← hn] at c0 CL ⊢
  clear hh hn hs hlen
  go_enter Tryz.func82, Tryz.ntmps82
  go_wp2_with fail
  refine CL.out.mono ?_
  rintro e w1 ⟨B, d, rfl, hb⟩
  have HB := Lib.hid hb
  have SC0 : Calls Tryz.prog 118 #[.slice B n d, .func (.func 119) #[] #[]] w1 fun e w' => e = .returned (.tuple #[]) ∧ ∃ l', l'.Perm s.l ∧ (∀ (a b : Nat) x y, a < b → l'[a]? = some x → l'[b]? = some y → ¬ lt3 y x) ∧
      St w None w' [LisR 127 3 (.slice B n d) n (ovs l')] := by
    rcases Nat.eq_zero_or_pos n with h0 | h0
    · have hnil : s.l = [] := List.eq_nil_of_length_eq_zero (by rw [← HN.out]; exact h0)
      subst h0
      refine (sort_0 B d _ w1).mono ?_
      rintro e w2 ⟨rfl, rfl⟩
      exact ⟨rfl, s.l, List.Perm.refl _, fun a b x y _ hx => (by rw [hnil] at hx; simp at hx), hb⟩
    · obtain ⟨g, off, rfl, _⟩ := (hb.lis 0 rfl).reads.2.resolve_left (by omega)
      exact sort_o hb (i := 0) rfl HLE.out h0
  have SC := Lib.hid SC0
  clear hb CL SC0
  go_wp2_with fail
  refine SC.out.mono ?_
  rintro e w2 ⟨rfl, l', h1, h2, h3⟩
  have K := Lib.hid (And.intro h1 (And.intro h2 h3))
  clear h1 h2 h3 SC HB
  go_wp2_with fail
  go_ret
  exact ⟨B, d, l', rfl, K.out.1, K.out.2.1, K.out.2.2⟩
theorem All_o (H : St w0 S0 w L) (i : Nat) (hi : L[i]? = some (OQR q s)) (hs : s.ok) : Calls Tryz.prog 82 #[.pointer (some ⟨q, 0, none⟩)] w (AllP s w0 S0 L) := by
  obtain ⟨T, hT⟩ := H.get i hi
  refine (All_c hT hs).mono ?_
  rintro e w' ⟨B, d, l', he, h1, h2, h3⟩
  exact ⟨B, d, l', he, h1, h2, H.join h3⟩
end
end
end od
end Go.Proofs.YtcbhhajcgfiigaaGreat
