/- Layer 16: what may be; tasks and loads in memory. -/
import Derived.Test.YtdemhhmceiaohaaRtaM
import Derived.Test.YtdemhhmceiaohaaLis
import Derived.Test.YtdemhhmceiaohaaRd
import Derived.Test.YtdemhhmceiaohaaTickRef
namespace Go.Proofs.Ytdemhhmceiaohaa
open Go.RowKit
set_option linter.unusedVariables false
set_option maxRecDepth 100000
set_option maxHeartbeats 1000000
/-- A task. -/
structure Wk where
  prio : Int
  cost : Int
  per : Int
  dead : Int
deriving Inhabited
/-- A load. -/
structure Ld where
  b : Int
  per : Int
deriving Inhabited
def Wk.ok (x : Wk) : Prop := (0 ≤ x.prio ∧ x.prio ≤ 100) ∧ 1 ≤ x.cost ∧ x.cost ≤ x.dead ∧ x.dead ≤ x.per ∧ x.per ≤ 1073741824
instance (x : Wk) : Decidable x.ok := by unfold Wk.ok; infer_instance
def Ld.ok (x : Ld) : Prop := 1 ≤ x.b ∧ x.b ≤ 200 ∧ x.b ≤ x.per ∧ x.per ≤ 1073741824
instance (x : Ld) : Decidable x.ok := by unfold Ld.ok; infer_instance
/-- As read: of their types. -/
def Wk.typed (x : Wk) : Prop := (-9223372036854775808 ≤ x.prio ∧ x.prio ≤ 9223372036854775807) ∧ (0 ≤ x.cost ∧ x.cost ≤ 18446744073709551615) ∧ (0 ≤ x.per ∧ x.per ≤ 18446744073709551615) ∧ (0 ≤ x.dead ∧ x.dead ≤ 18446744073709551615)
def Ld.typed (x : Ld) : Prop := (-9223372036854775808 ≤ x.b ∧ x.b ≤ 9223372036854775807) ∧ (0 ≤ x.per ∧ x.per ≤ 18446744073709551615)
def Wk.v (x : Wk) : Nat → Value
  | 0 => .int .i64 x.prio
  | 1 => .int .u64 x.cost
  | 2 => .int .u64 x.per
  | _ => .int .u64 x.dead
def Ld.v (x : Ld) : Nat → Value
  | 0 => .int .i64 x.b
  | _ => .int .u64 x.per
abbrev Wk.cells (x : Wk) : Array Value := #[.int .i64 x.prio, .int .u64 x.cost, .int .u64 x.per, .int .u64 x.dead]
abbrev Ld.cells (x : Ld) : Array Value := #[.int .i64 x.b, .int .u64 x.per]
/-- Tasks, and loads, that can be read. -/
def Ts (w : World) (A : Option Addr) (n : Nat) (T : Nat → Wk) : Prop := RdM w A n 4 (fun j => (T j).v)
def Ls (w : World) (A : Option Addr) (n : Nat) (S : Nat → Ld) : Prop := RdM w A n 2 (fun j => (S j).v)
theorem Ts.at_ {w wr : World} {A : Option Addr} {n : Nat} {T : Nat → Wk} (h : Ts w A n T) (hb : Below w.heap.size w wr) {k : Nat} (hk : k < n) :
    ∃ b off, A = some ⟨b, off, none⟩ ∧ wr.cell? ⟨b, off + k * 4, none⟩ = some (.int .i64 (T k).prio) ∧ wr.cell? ⟨b, off + k * 4 + 1, none⟩ = some (.int .u64 (T k).cost) ∧ wr.cell? ⟨b, off + k * 4 + 2, none⟩ = some (.int .u64 (T k).per) ∧ wr.cell? ⟨b, off + k * 4 + 3, none⟩ = some (.int .u64 (T k).dead) := RdM.at4 h hb hk
theorem Ls.at_ {w wr : World} {A : Option Addr} {n : Nat} {T : Nat → Ld} (h : Ls w A n T) (hb : Below w.heap.size w wr) {k : Nat} (hk : k < n) :
    ∃ b off, A = some ⟨b, off, none⟩ ∧ wr.cell? ⟨b, off + k * 2, none⟩ = some (.int .i64 (T k).b) ∧ wr.cell? ⟨b, off + k * 2 + 1, none⟩ = some (.int .u64 (T k).per) := RdM.at2 h hb hk
theorem Ts.below {w w' : World} {A : Option Addr} {n : Nat} {T : Nat → Wk} (h : Ts w A n T) (hb : Below w.heap.size w w') : Ts w' A n T := RdM.below h hb (Nat.le_refl _)
theorem Ls.below {w w' : World} {A : Option Addr} {n : Nat} {T : Nat → Ld} (h : Ls w A n T) (hb : Below w.heap.size w w') : Ls w' A n T := RdM.below h hb (Nat.le_refl _)
theorem wmay (p c r d : Int) (w : World) (b : Bool) (hb : b = decide (Wk.ok ⟨p, c, r, d⟩)) :
    Calls Try.prog 52 #[.agg (Wk.cells ⟨p, c, r, d⟩)] w fun e w' => e = .returned (.bool b) ∧ Below w.heap.size w w' := by
  by_cases q0 : 0 ≤ p
  · have z0 : decide (0 ≤ p) = true := decide_eq_true (by omega)
    by_cases q1 : p ≤ 100
    · have z1 : decide (p ≤ 100) = true := decide_eq_true (by omega)
      by_cases q2 : 1 ≤ c
      · have z2 : decide (1 ≤ c) = true := decide_eq_true (by omega)
        by_cases q3 : c ≤ d
        · have z3 : decide (c ≤ d) = true := decide_eq_true (by omega)
          by_cases q4 : d ≤ r
          · have z4 : decide (d ≤ r) = true := decide_eq_true (by omega)
            by_cases q5 : r ≤ 1073741824
            · have z5 : decide (r ≤ 1073741824) = true := decide_eq_true (by omega)
              obtain rfl : b = true := by rw [hb]; exact decide_eq_true (by unfold Wk.ok; dsimp only; omega)
              clear hb
              go_enter Try.func52, Try.ntmps52
              go_wp2
              go_ret
              exact ⟨rfl, (Below.refl _ _).alloc (Nat.le_refl _) _⟩
            · have z5 : decide (r ≤ 1073741824) = false := decide_eq_false (by omega)
              obtain rfl : b = false := by rw [hb]; exact decide_eq_false fun h => by unfold Wk.ok at h; dsimp only at h; omega
              clear hb
              go_enter Try.func52, Try.ntmps52
              go_wp2
              go_ret
              exact ⟨rfl, (Below.refl _ _).alloc (Nat.le_refl _) _⟩
          · have z4 : decide (d ≤ r) = false := decide_eq_false (by omega)
            obtain rfl : b = false := by rw [hb]; exact decide_eq_false fun h => by unfold Wk.ok at h; dsimp only at h; omega
            clear hb
            go_enter Try.func52, Try.ntmps52
            go_wp2
            go_ret
            exact ⟨rfl, (Below.refl _ _).alloc (Nat.le_refl _) _⟩
        · have z3 : decide (c ≤ d) = false := decide_eq_false (by omega)
          obtain rfl : b = false := by rw [hb]; exact decide_eq_false fun h => by unfold Wk.ok at h; dsimp only at h; omega
          clear hb
          go_enter Try.func52, Try.ntmps52
          go_wp2
          go_ret
          exact ⟨rfl, (Below.refl _ _).alloc (Nat.le_refl _) _⟩
      · have z2 : decide (1 ≤ c) = false := decide_eq_false (by omega)
        obtain rfl : b = false := by rw [hb]; exact decide_eq_false fun h => by unfold Wk.ok at h; dsimp only at h; omega
        clear hb
        go_enter Try.func52, Try.ntmps52
        go_wp2
        go_ret
        exact ⟨rfl, (Below.refl _ _).alloc (Nat.le_refl _) _⟩
    · have z1 : decide (p ≤ 100) = false := decide_eq_false (by omega)
      obtain rfl : b = false := by rw [hb]; exact decide_eq_false fun h => by unfold Wk.ok at h; dsimp only at h; omega
      clear hb
      go_enter Try.func52, Try.ntmps52
      go_wp2
      go_ret
      exact ⟨rfl, (Below.refl _ _).alloc (Nat.le_refl _) _⟩
  · have z0 : decide (0 ≤ p) = false := decide_eq_false (by omega)
    obtain rfl : b = false := by rw [hb]; exact decide_eq_false fun h => by unfold Wk.ok at h; dsimp only at h; omega
    clear hb
    go_enter Try.func52, Try.ntmps52
    go_wp2
    go_ret
    exact ⟨rfl, (Below.refl _ _).alloc (Nat.le_refl _) _⟩
theorem rwmay (p c r d : Int) (w : World) (b : Bool) (hb : b = decide (Wk.ok ⟨p, c, r, d⟩)) :
    Calls Try.prog 6 #[.agg (Wk.cells ⟨p, c, r, d⟩)] w fun e w' => e = .returned (.bool b) ∧ Below w.heap.size w w' := by
  by_cases q0 : 0 ≤ p
  · have z0 : decide (p < 0) = false := decide_eq_false (by omega)
    by_cases q1 : p ≤ 100
    · have z1 : decide (100 < p) = false := decide_eq_false (by omega)
      by_cases q2 : 1 ≤ c
      · have z2 : decide (c < 1) = false := decide_eq_false (by omega)
        by_cases q3 : c ≤ d
        · have z3 : decide (d < c) = false := decide_eq_false (by omega)
          by_cases q4 : d ≤ r
          · have z4 : decide (d ≤ r) = true := decide_eq_true (by omega)
            by_cases q5 : r ≤ 1073741824
            · have z5 : decide (r ≤ 1073741824) = true := decide_eq_true (by omega)
              obtain rfl : b = true := by rw [hb]; exact decide_eq_true (by unfold Wk.ok; dsimp only; omega)
              clear hb
              go_enter Try.func6, Try.ntmps6
              go_wp2
              go_ret
              exact ⟨rfl, (Below.refl _ _).alloc (Nat.le_refl _) _⟩
            · have z5 : decide (r ≤ 1073741824) = false := decide_eq_false (by omega)
              obtain rfl : b = false := by rw [hb]; exact decide_eq_false fun h => by unfold Wk.ok at h; dsimp only at h; omega
              clear hb
              go_enter Try.func6, Try.ntmps6
              go_wp2
              go_ret
              exact ⟨rfl, (Below.refl _ _).alloc (Nat.le_refl _) _⟩
          · have z4 : decide (d ≤ r) = false := decide_eq_false (by omega)
            obtain rfl : b = false := by rw [hb]; exact decide_eq_false fun h => by unfold Wk.ok at h; dsimp only at h; omega
            clear hb
            go_enter Try.func6, Try.ntmps6
            go_wp2
            go_ret
            exact ⟨rfl, (Below.refl _ _).alloc (Nat.le_refl _) _⟩
        · have z3 : decide (d < c) = true := decide_eq_true (by omega)
          obtain rfl : b = false := by rw [hb]; exact decide_eq_false fun h => by unfold Wk.ok at h; dsimp only at h; omega
          clear hb
          go_enter Try.func6, Try.ntmps6
          go_wp2
          go_ret
          exact ⟨rfl, (Below.refl _ _).alloc (Nat.le_refl _) _⟩
      · have z2 : decide (c < 1) = true := decide_eq_true (by omega)
        obtain rfl : b = false := by rw [hb]; exact decide_eq_false fun h => by unfold Wk.ok at h; dsimp only at h; omega
        clear hb
        go_enter Try.func6, Try.ntmps6
        go_wp2
        go_ret
        exact ⟨rfl, (Below.refl _ _).alloc (Nat.le_refl _) _⟩
    · have z1 : decide (100 < p) = true := decide_eq_true (by omega)
      obtain rfl : b = false := by rw [hb]; exact decide_eq_false fun h => by unfold Wk.ok at h; dsimp only at h; omega
      clear hb
      go_enter Try.func6, Try.ntmps6
      go_wp2
      go_ret
      exact ⟨rfl, (Below.refl _ _).alloc (Nat.le_refl _) _⟩
  · have z0 : decide (p < 0) = true := decide_eq_true (by omega)
    obtain rfl : b = false := by rw [hb]; exact decide_eq_false fun h => by unfold Wk.ok at h; dsimp only at h; omega
    clear hb
    go_enter Try.func6, Try.ntmps6
    go_wp2
    go_ret
    exact ⟨rfl, (Below.refl _ _).alloc (Nat.le_refl _) _⟩
theorem lmay (p r : Int) (h0 : 0 ≤ r ∧ r ≤ 18446744073709551615) (w : World) (b : Bool) (hb : b = decide (1 ≤ p ∧ p ≤ 200 ∧ p ≤ r ∧ r ≤ 1099511627776)) :
    Calls Try.prog 53 #[.agg (Ld.cells ⟨p, r⟩)] w fun e w' => e = .returned (.bool b) ∧ Below w.heap.size w w' := by
  by_cases q0 : 1 ≤ p
  · have z0 : decide (1 ≤ p) = true := decide_eq_true (by omega)
    by_cases q1 : p ≤ 200
    · have z1 : decide (p ≤ 200) = true := decide_eq_true (by omega)
      have hw : IntKind.u64.wrap p = p := IntWalk.u64_in _ ⟨by omega, by omega⟩
      by_cases q2 : p ≤ r
      · have z2 : decide (p ≤ r) = true := decide_eq_true (by omega)
        by_cases q3 : r ≤ 1099511627776
        · have z3 : decide (r ≤ 1099511627776) = true := decide_eq_true (by omega)
          obtain rfl : b = true := by rw [hb]; exact decide_eq_true (by omega)
          clear hb
          go_enter Try.func53, Try.ntmps53
          go_wp2
          go_ret
          exact ⟨rfl, (Below.refl _ _).alloc (Nat.le_refl _) _⟩
        · have z3 : decide (r ≤ 1099511627776) = false := decide_eq_false (by omega)
          obtain rfl : b = false := by rw [hb]; exact decide_eq_false fun h => by omega
          clear hb
          go_enter Try.func53, Try.ntmps53
          go_wp2
          go_ret
          exact ⟨rfl, (Below.refl _ _).alloc (Nat.le_refl _) _⟩
      · have z2 : decide (p ≤ r) = false := decide_eq_false (by omega)
        obtain rfl : b = false := by rw [hb]; exact decide_eq_false fun h => by omega
        clear hb
        go_enter Try.func53, Try.ntmps53
        go_wp2
        go_ret
        exact ⟨rfl, (Below.refl _ _).alloc (Nat.le_refl _) _⟩
    · have z1 : decide (p ≤ 200) = false := decide_eq_false (by omega)
      obtain rfl : b = false := by rw [hb]; exact decide_eq_false fun h => by omega
      clear hb
      go_enter Try.func53, Try.ntmps53
      go_wp2
      go_ret
      exact ⟨rfl, (Below.refl _ _).alloc (Nat.le_refl _) _⟩
  · have z0 : decide (1 ≤ p) = false := decide_eq_false (by omega)
    obtain rfl : b = false := by rw [hb]; exact decide_eq_false fun h => by omega
    clear hb
    go_enter Try.func53, Try.ntmps53
    go_wp2
    go_ret
    exact ⟨rfl, (Below.refl _ _).alloc (Nat.le_refl _) _⟩
theorem rlmay (p r : Int) (h0 : 0 ≤ r ∧ r ≤ 18446744073709551615) (w : World) (b : Bool) (hb : b = decide (1 ≤ p ∧ p ≤ 200 ∧ p ≤ r ∧ r ≤ 1099511627776)) :
    Calls Try.prog 24 #[.agg (Ld.cells ⟨p, r⟩)] w fun e w' => e = .returned (.bool b) ∧ Below w.heap.size w w' := by
  by_cases q0 : 1 ≤ p
  · have z0 : decide (0 < p) = true := decide_eq_true (by omega)
    by_cases q1 : p ≤ 200
    · have z1 : decide (p ≤ 200) = true := decide_eq_true (by omega)
      have hw : IntKind.u64.wrap p = p := IntWalk.u64_in _ ⟨by omega, by omega⟩
      by_cases q2 : r ≤ 1099511627776
      · have z2 : decide (r ≤ 1099511627776) = true := decide_eq_true (by omega)
        by_cases q3 : p ≤ r
        · have z3 : decide (p ≤ r) = true := decide_eq_true (by omega)
          obtain rfl : b = true := by rw [hb]; exact decide_eq_true (by omega)
          clear hb
          go_enter Try.func24, Try.ntmps24
          go_wp2
          go_ret
          exact ⟨rfl, (Below.refl _ _).alloc (Nat.le_refl _) _⟩
        · have z3 : decide (p ≤ r) = false := decide_eq_false (by omega)
          obtain rfl : b = false := by rw [hb]; exact decide_eq_false fun h => by omega
          clear hb
          go_enter Try.func24, Try.ntmps24
          go_wp2
          go_ret
          exact ⟨rfl, (Below.refl _ _).alloc (Nat.le_refl _) _⟩
      · have z2 : decide (r ≤ 1099511627776) = false := decide_eq_false (by omega)
        obtain rfl : b = false := by rw [hb]; exact decide_eq_false fun h => by omega
        clear hb
        go_enter Try.func24, Try.ntmps24
        go_wp2
        go_ret
        exact ⟨rfl, (Below.refl _ _).alloc (Nat.le_refl _) _⟩
    · have z1 : decide (p ≤ 200) = false := decide_eq_false (by omega)
      obtain rfl : b = false := by rw [hb]; exact decide_eq_false fun h => by omega
      clear hb
      go_enter Try.func24, Try.ntmps24
      go_wp2
      go_ret
      exact ⟨rfl, (Below.refl _ _).alloc (Nat.le_refl _) _⟩
  · have z0 : decide (0 < p) = false := decide_eq_false (by omega)
    obtain rfl : b = false := by rw [hb]; exact decide_eq_false fun h => by omega
    clear hb
    go_enter Try.func24, Try.ntmps24
    go_wp2
    go_ret
    exact ⟨rfl, (Below.refl _ _).alloc (Nat.le_refl _) _⟩
end Go.Proofs.Ytdemhhmceiaohaa
