/- Contracts of layer 2's functions: a table is one block of one value, a slice of slots; a slot is two cells: its generation, and what lies there. -/
import Derived.Test.YtlpmnpmgehjmaaaFr
import Derived.Test.YtlpmnpmgehjmaaaRows
import Derived.Test.YtlpmnpmgehjmaaaObj
import Derived.WalkLawsBesides
import Derived.WalkSpells
import Derived.BigQuiet
import Derived.RegionTactic
import Derived.LoopTactic
import Derived.Outline
import Derived.WalkKit
namespace Go.Proofs.Ytlpmnpmgehjmaaa
open Go.RowKit
set_option linter.unusedVariables false
/-- What lies in a slot: a number, or nothing. -/
def anyOf : Option Int → Value
  | none => .nilIface
  | some v => .iface 3 (.int .i64 v)
/-- The table in block t: n slots in block g, their generations, what lies there. -/
structure Tb (w : World) (t g n : Nat) (gen : Nat → Int) (st : Nat → Option Int) : Prop where
  ne : t ≠ g
  blk : Blk w t 59 #[.slice (some ⟨g, 0, none⟩) n n]
  row : ∃ arr : Array Value, Blk w g 61 arr ∧ arr.size = n * 2 ∧ ∀ i, i < n → arr[i * 2]? = some (.int .u64 (gen i)) ∧ arr[i * 2 + 1]? = some (anyOf (st i))
section
variable {w : World} {t g n : Nat} {gen : Nat → Int} {st : Nat → Option Int}
theorem Tb.c0 (h : Tb w t g n gen st) : w.cell? ⟨t, 0, none⟩ = some (.slice (some ⟨g, 0, none⟩) n n) := h.blk.one
theorem Tb.gen_at (h : Tb w t g n gen st) {i : Nat} (hi : i < n) : w.cell? ⟨g, i * 2, none⟩ = some (.int .u64 (gen i)) := by
  obtain ⟨arr, hb, _, ha⟩ := h.row; rw [hb.cell]; exact (ha i hi).1
theorem Tb.what_at (h : Tb w t g n gen st) {i : Nat} (hi : i < n) : w.cell? ⟨g, i * 2 + 1, none⟩ = some (anyOf (st i)) := by
  obtain ⟨arr, hb, _, ha⟩ := h.row; rw [hb.cell]; exact (ha i hi).2
theorem Tb.frozen (h : Tb w t g n gen st) (o : Nat) : w.frozen? ⟨g, o, none⟩ = false := by
  obtain ⟨arr, hb, _, ha⟩ := h.row; exact hb.frozen o
theorem Tb.stay {w' : World} (h : Tb w t g n gen st) (hb : Below w.heap.size w w') : Tb w' t g n gen st := by
  obtain ⟨arr, hg, hs, ha⟩ := h.row
  exact ⟨h.ne, h.blk.stay hb, arr, hg.stay hb, hs, ha⟩
theorem Tb.drewN (h : Tb w t g n gen st) (k : Nat) : Tb (w.drewN k) t g n gen st := by
  obtain ⟨arr, hg, hs, ha⟩ := h.row
  exact ⟨h.ne, h.blk.drewN k, arr, hg.drewN k, hs, ha⟩
theorem Tb.alloc (h : Tb w t g n gen st) (o : Obj) : Tb (w.alloc o) t g n gen st := by
  obtain ⟨arr, hg, hs, ha⟩ := h.row
  exact ⟨h.ne, h.blk.alloc o, arr, hg.alloc o, hs, ha⟩
/-- A value is laid into slot i. -/
theorem Tb.put (h : Tb w t g n gen st) {i : Nat} (hi : i < n) (x : Option Int) : Tb (w.setCell ⟨g, i * 2 + 1, none⟩ (anyOf x)) t g n gen (fun j => if j = i then x else st j) := by
  obtain ⟨arr, hg, hs, ha⟩ := h.row
  refine ⟨h.ne, h.blk.far (p := ⟨g, i * 2 + 1, none⟩) h.ne _, _, hg.set_ (i * 2 + 1) _, by simpa using hs, fun j hj => ⟨?_, ?_⟩⟩
  · rw [Array.getElem?_setIfInBounds_ne (by omega)]; exact (ha j hj).1
  · by_cases hji : j = i
    · subst hji; rw [Array.getElem?_setIfInBounds_self_of_lt (by omega), if_pos rfl]
    · rw [Array.getElem?_setIfInBounds_ne (by omega), if_neg hji]; exact (ha j hj).2
end
@[go_sem] theorem as_some (v : Value) (xT : TypeId) (w : World) : (Instr.typeAssert (.iface 3 v) xT 3 true).run Try.prog w = .ok (.tuple #[v, .bool true]) w := by kernel_rfl
@[go_sem] theorem as_none (xT : TypeId) (w : World) : (Instr.typeAssert .nilIface xT 3 true).run Try.prog w = .ok (.tuple #[.int .i64 0, .bool false]) w := by kernel_rfl
@[go_sem] theorem as_must (v : Value) (xT : TypeId) (w : World) : (Instr.typeAssert (.iface 3 v) xT 3 false).run Try.prog w = .ok v w := by kernel_rfl
theorem used_some (g o : Nat) (v : Int) (w : World) (hc : w.cell? ⟨g, o + 1, none⟩ = some (anyOf (some v))) :
    Calls Try.prog 25 #[.pointer (some ⟨g, o, none⟩)] w fun e w' => e = .returned (.bool true) ∧ w = w' := by
  unfold anyOf at hc
  go_enter Try.func25, Try.ntmps25
  go_wp2
  go_ret
  exact ⟨rfl, rfl⟩
theorem used_none (g o : Nat) (w : World) (hc : w.cell? ⟨g, o + 1, none⟩ = some (anyOf none)) :
    Calls Try.prog 25 #[.pointer (some ⟨g, o, none⟩)] w fun e w' => e = .returned (.bool false) ∧ w = w' := by
  unfold anyOf at hc
  go_enter Try.func25, Try.ntmps25
  go_wp2
  go_ret
  exact ⟨rfl, rfl⟩
theorem value_some (g o : Nat) (v : Int) (w : World) (hc : w.cell? ⟨g, o + 1, none⟩ = some (anyOf (some v))) :
    Calls Try.prog 27 #[.pointer (some ⟨g, o, none⟩)] w fun e w' => e = .returned (.int .i64 v) ∧ w = w' := by
  unfold anyOf at hc
  go_enter Try.func27, Try.ntmps27
  go_wp2
  go_ret
  exact ⟨rfl, rfl⟩
theorem find_ok (t g n : Nat) (gen : Nat → Int) (st : Nat → Option Int) (i : Nat) (v : Int) (w : World) (h : Tb w t g n gen st) (hi : i < n) (hn : n ≤ 1000) (hs : st i = some v) :
    Calls Try.prog 26 #[.pointer (some ⟨t, 0, none⟩), .agg #[.int .i64 i, .int .u64 (gen i)]] w fun e w' => e = .returned (.pointer (some ⟨g, i * 2, none⟩)) ∧ Below w.heap.size w w' := by
  have h1 := h.alloc (.cells #[.int .i64 i, .int .u64 (gen i)] 32)
  have c0 := h1.c0
  have c1 := h1.gen_at hi
  have c2 := h1.what_at hi
  rw [hs] at c2
  obtain ⟨b0, b1⟩ := (Blk.new w 32 #[.int .i64 i, .int .u64 (gen i)]).two
  have hbel : Below w.heap.size w (w.alloc (.cells #[.int .i64 i, .int .u64 (gen i)] 32)) := (Below.refl _ _).alloc (Nat.le_refl _) _
  generalize gen i = gi at *
  have d1 : decide ((i : Int) < 0) = false := decide_eq_false (by omega)
  have d2 : decide ((n : Int) ≤ (i : Int)) = false := decide_eq_false (by omega)
  go_enter Try.func26, Try.ntmps26
  go_wp2_with fail
  go_quiet (fail)
  go_wp2_with fail
  go_quiet (fail)
  go_wp2_with fail
  go_quiet ((go_at_call 25; first | exact q_left (used_some g (i * 2) v _ c2) | exact q_add (used_some g (i * 2) v _ c2)))
  go_wp2_with fail
  go_ret
  exact ⟨rfl, by first | exact hbel | exact below_drewN hbel _ | exact below_drewN (below_drewN hbel _) _ | exact below_drewN (below_drewN (below_drewN hbel _) _) _⟩
theorem find_neg (t g n : Nat) (gen : Nat → Int) (st : Nat → Option Int) (i c : Int) (w : World) (h : Tb w t g n gen st) (hn : n ≤ 1000) (hi : i < 0) :
    Calls Try.prog 26 #[.pointer (some ⟨t, 0, none⟩), .agg #[.int .i64 i, .int .u64 c]] w fun e w' => e = .returned (.pointer none) ∧ Below w.heap.size w w' := by
  have h1 := h.alloc (.cells #[.int .i64 i, .int .u64 c] 32)
  have c0 := h1.c0
  obtain ⟨b0, b1⟩ := (Blk.new w 32 #[.int .i64 i, .int .u64 c]).two
  have hbel : Below w.heap.size w (w.alloc (.cells #[.int .i64 i, .int .u64 c] 32)) := (Below.refl _ _).alloc (Nat.le_refl _) _
  have d1 : decide (i < 0) = true := decide_eq_true hi
  go_enter Try.func26, Try.ntmps26
  go_wp2_with fail
  go_quiet (fail)
  go_wp2_with fail
  go_ret
  exact ⟨rfl, by first | exact hbel | exact below_drewN hbel _ | exact below_drewN (below_drewN hbel _) _ | exact below_drewN (below_drewN (below_drewN hbel _) _) _⟩
theorem find_big (t g n : Nat) (gen : Nat → Int) (st : Nat → Option Int) (i c : Int) (w : World) (h : Tb w t g n gen st) (hn : n ≤ 1000) (hi : n ≤ i) :
    Calls Try.prog 26 #[.pointer (some ⟨t, 0, none⟩), .agg #[.int .i64 i, .int .u64 c]] w fun e w' => e = .returned (.pointer none) ∧ Below w.heap.size w w' := by
  have h1 := h.alloc (.cells #[.int .i64 i, .int .u64 c] 32)
  have c0 := h1.c0
  obtain ⟨b0, b1⟩ := (Blk.new w 32 #[.int .i64 i, .int .u64 c]).two
  have hbel : Below w.heap.size w (w.alloc (.cells #[.int .i64 i, .int .u64 c] 32)) := (Below.refl _ _).alloc (Nat.le_refl _) _
  have d1 : decide (i < 0) = false := decide_eq_false (by omega)
  have d2 : decide ((n : Int) ≤ i) = true := decide_eq_true hi
  go_enter Try.func26, Try.ntmps26
  go_wp2_with fail
  go_quiet (fail)
  go_wp2_with fail
  go_ret
  exact ⟨rfl, by first | exact hbel | exact below_drewN hbel _ | exact below_drewN (below_drewN hbel _) _ | exact below_drewN (below_drewN (below_drewN hbel _) _) _⟩
theorem find_free (t g n : Nat) (gen : Nat → Int) (st : Nat → Option Int) (i : Nat) (c : Int) (w : World) (h : Tb w t g n gen st) (hn : n ≤ 1000) (hi : i < n) (hs : st i = none) :
    Calls Try.prog 26 #[.pointer (some ⟨t, 0, none⟩), .agg #[.int .i64 i, .int .u64 c]] w fun e w' => e = .returned (.pointer none) ∧ Below w.heap.size w w' := by
  have h1 := h.alloc (.cells #[.int .i64 i, .int .u64 c] 32)
  have c0 := h1.c0
  obtain ⟨b0, b1⟩ := (Blk.new w 32 #[.int .i64 i, .int .u64 c]).two
  have hbel : Below w.heap.size w (w.alloc (.cells #[.int .i64 i, .int .u64 c] 32)) := (Below.refl _ _).alloc (Nat.le_refl _) _
  have c2 := h1.what_at hi
  rw [hs] at c2
  have d1 : decide ((i : Int) < 0) = false := decide_eq_false (by omega)
  have d2 : decide ((n : Int) ≤ (i : Int)) = false := decide_eq_false (by omega)
  go_enter Try.func26, Try.ntmps26
  go_wp2_with fail
  go_quiet (fail)
  go_wp2_with fail
  go_quiet (fail)
  go_wp2_with fail
  go_quiet ((go_at_call 25; first | exact q_left (used_none g (i * 2) _ c2) | exact q_add (used_none g (i * 2) _ c2)))
  go_wp2_with fail
  go_ret
  exact ⟨rfl, by first | exact hbel | exact below_drewN hbel _ | exact below_drewN (below_drewN hbel _) _ | exact below_drewN (below_drewN (below_drewN hbel _) _) _⟩
theorem find_gen (t g n : Nat) (gen : Nat → Int) (st : Nat → Option Int) (i : Nat) (c v : Int) (w : World) (h : Tb w t g n gen st) (hn : n ≤ 1000) (hi : i < n) (hs : st i = some v) (hc : gen i ≠ c) :
    Calls Try.prog 26 #[.pointer (some ⟨t, 0, none⟩), .agg #[.int .i64 i, .int .u64 c]] w fun e w' => e = .returned (.pointer none) ∧ Below w.heap.size w w' := by
  have h1 := h.alloc (.cells #[.int .i64 i, .int .u64 c] 32)
  have c0 := h1.c0
  obtain ⟨b0, b1⟩ := (Blk.new w 32 #[.int .i64 i, .int .u64 c]).two
  have hbel : Below w.heap.size w (w.alloc (.cells #[.int .i64 i, .int .u64 c] 32)) := (Below.refl _ _).alloc (Nat.le_refl _) _
  have c1 := h1.gen_at hi
  have c2 := h1.what_at hi
  rw [hs] at c2
  generalize gen i = gi at *
  have z0 : (gi == c) = false := beq_eq_false_iff_ne.2 hc
  have z1 : (gi != c) = true := by simp [bne, z0]
  have d1 : decide ((i : Int) < 0) = false := decide_eq_false (by omega)
  have d2 : decide ((n : Int) ≤ (i : Int)) = false := decide_eq_false (by omega)
  go_enter Try.func26, Try.ntmps26
  go_wp2_with fail
  go_quiet (fail)
  go_wp2_with fail
  go_quiet (fail)
  go_wp2_with fail
  go_quiet ((go_at_call 25; first | exact q_left (used_some g (i * 2) v _ c2) | exact q_add (used_some g (i * 2) v _ c2)))
  go_wp2_with fail
  go_ret
  exact ⟨rfl, by first | exact hbel | exact below_drewN hbel _ | exact below_drewN (below_drewN hbel _) _ | exact below_drewN (below_drewN (below_drewN hbel _) _) _⟩
/-- Stale: no slot's number, or free, or of another generation. -/
def Stale (n : Nat) (gen : Nat → Int) (st : Nat → Option Int) (s c : Int) : Prop := s < 0 ∨ (n : Int) ≤ s ∨ st s.toNat = none ∨ gen s.toNat ≠ c
theorem find_stale (t g n : Nat) (gen : Nat → Int) (st : Nat → Option Int) (s c : Int) (w : World) (h : Tb w t g n gen st) (hn : n ≤ 1000) (hs : Stale n gen st s c) :
    Calls Try.prog 26 #[.pointer (some ⟨t, 0, none⟩), .agg #[.int .i64 s, .int .u64 c]] w fun e w' => e = .returned (.pointer none) ∧ Below w.heap.size w w' := by
  by_cases h0 : s < 0
  · exact find_neg t g n gen st s c w h hn h0
  · by_cases h1 : (n : Int) ≤ s
    · exact find_big t g n gen st s c w h hn h1
    · obtain ⟨i, rfl⟩ : ∃ i : Nat, (i : Int) = s := ⟨s.toNat, by omega⟩
      have hi : i < n := by omega
      rcases hs with hs | hs | hs | hs
      · omega
      · omega
      · exact find_free t g n gen st i c w h hn hi (by simpa using hs)
      · cases hv : st i with
        | none => exact find_free t g n gen st i c w h hn hi hv
        | some v => exact find_gen t g n gen st i c v w h hn hi hv (by simpa using hs)
theorem Get_ok (t g n : Nat) (gen : Nat → Int) (st : Nat → Option Int) (i : Nat) (v : Int) (w : World) (h : Tb w t g n gen st) (hi : i < n) (hn : n ≤ 1000) (hs : st i = some v) :
    Calls Try.prog 15 #[.pointer (some ⟨t, 0, none⟩), .agg #[.int .i64 i, .int .u64 (gen i)]] w fun e w' => e = .returned (.tuple #[.int .i64 v, .int .i64 0]) ∧ Below w.heap.size w w' := by
  have h1 := h.alloc (.cells #[.int .i64 i, .int .u64 (gen i)] 32)
  have FD := Lib.hid (find_ok t g n gen st i v _ h1 hi hn hs)
  go_enter Try.func15, Try.ntmps15
  go_wp2_with fail
  refine FD.out.mono ?_
  rintro e w1 ⟨rfl, hw1⟩
  have c2 := (h1.stay hw1).what_at hi
  rw [hs] at c2
  go_wp2_with fail
  refine (value_some g (i * 2) v _ c2).mono ?_
  rintro e w2 ⟨rfl, rfl⟩
  go_wp2_with fail
  go_ret2
  exact ⟨rfl, below_box hw1⟩
theorem Get_stale (t g n : Nat) (gen : Nat → Int) (st : Nat → Option Int) (s c : Int) (w : World) (h : Tb w t g n gen st) (hn : n ≤ 1000) (hs : Stale n gen st s c) :
    Calls Try.prog 15 #[.pointer (some ⟨t, 0, none⟩), .agg #[.int .i64 s, .int .u64 c]] w fun e w' => e = .returned (.tuple #[.int .i64 0, .int .i64 3]) ∧ Below w.heap.size w w' := by
  have h1 := h.alloc (.cells #[.int .i64 s, .int .u64 c] 32)
  have FD := Lib.hid (find_stale t g n gen st s c _ h1 hn hs)
  go_enter Try.func15, Try.ntmps15
  go_wp2_with fail
  refine FD.out.mono ?_
  rintro e w1 ⟨rfl, hw1⟩
  go_wp2_with fail
  go_ret2
  exact ⟨rfl, below_box hw1⟩
theorem Set_stale (t g n : Nat) (gen : Nat → Int) (st : Nat → Option Int) (s c x : Int) (w : World) (h : Tb w t g n gen st) (hn : n ≤ 1000) (hs : Stale n gen st s c) :
    Calls Try.prog 17 #[.pointer (some ⟨t, 0, none⟩), .agg #[.int .i64 s, .int .u64 c], .int .i64 x] w fun e w' => e = .returned (.int .i64 3) ∧ Below w.heap.size w w' := by
  have h1 := h.alloc (.cells #[.int .i64 s, .int .u64 c] 32)
  have FD := Lib.hid (find_stale t g n gen st s c _ h1 hn hs)
  go_enter Try.func17, Try.ntmps17
  go_wp2_with fail
  refine FD.out.mono ?_
  rintro e w1 ⟨rfl, hw1⟩
  go_wp2_with fail
  go_ret
  exact ⟨rfl, below_box hw1⟩
theorem Set_ok (t g n : Nat) (gen : Nat → Int) (st : Nat → Option Int) (i : Nat) (v x : Int) (w : World) (h : Tb w t g n gen st) (hi : i < n) (hn : n ≤ 1000) (hs : st i = some v) :
    Calls Try.prog 17 #[.pointer (some ⟨t, 0, none⟩), .agg #[.int .i64 i, .int .u64 (gen i)], .int .i64 x] w fun e w' => e = .returned (.int .i64 0) ∧ Tb w' t g n gen (fun j => if j = i then some x else st j) ∧ Only g w w' := by
  have h1 := h.alloc (.cells #[.int .i64 i, .int .u64 (gen i)] 32)
  have FD := Lib.hid (find_ok t g n gen st i v _ h1 hi hn hs)
  go_enter Try.func17, Try.ntmps17
  go_wp2_with fail
  refine FD.out.mono ?_
  rintro e w1 ⟨rfl, hw1⟩
  have h2 := h1.stay hw1
  have c2 := h2.what_at hi
  have f2 := h2.frozen (i * 2 + 1)
  go_wp2_with fail
  go_ret
  exact ⟨rfl, h2.put hi (some x), (Only.of_below (below_box hw1) g).set_ _ _⟩
theorem Drop_stale (t g n : Nat) (gen : Nat → Int) (st : Nat → Option Int) (s c : Int) (w : World) (h : Tb w t g n gen st) (hn : n ≤ 1000) (hs : Stale n gen st s c) :
    Calls Try.prog 19 #[.pointer (some ⟨t, 0, none⟩), .agg #[.int .i64 s, .int .u64 c]] w fun e w' => e = .returned (.tuple #[.int .i64 0, .int .i64 3]) ∧ Below w.heap.size w w' := by
  have h1 := h.alloc (.cells #[.int .i64 s, .int .u64 c] 32)
  have FD := Lib.hid (find_stale t g n gen st s c _ h1 hn hs)
  go_enter Try.func19, Try.ntmps19
  go_wp2_with fail
  refine FD.out.mono ?_
  rintro e w1 ⟨rfl, hw1⟩
  go_wp2_with fail
  go_ret2
  exact ⟨rfl, below_box hw1⟩
theorem Put_full (t g n : Nat) (gen : Nat → Int) (st : Nat → Option Int) (x : Int) (w : World) (h : Tb w t g n gen st) (hn : n ≤ 1000) (hs : ∀ i, i < n → ∃ v, st i = some v) :
    Calls Try.prog 13 #[.pointer (some ⟨t, 0, none⟩), .int .i64 x] w fun e w' => e = .returned (.tuple #[.agg #[.int .i64 0, .int .u64 0], .int .i64 4]) ∧ Below w.heap.size w w' := by
  have h1 := h.alloc (.cells #[.int .i64 0, .int .u64 0] 32)
  have c0 := h1.c0
  have hB := Blk.new w 32 #[.int .i64 0, .int .u64 0]
  have f0 := hB.frozen 0
  have f1 := hB.frozen 1
  obtain ⟨b0, b1⟩ := hB.two
  have hbel : Below w.heap.size w (w.alloc (.cells #[.int .i64 0, .int .u64 0] 32)) := (Below.refl _ _).alloc (Nat.le_refl _) _
  go_enter Try.func13, Try.ntmps13
  go_wp2
  go_loopw [13] (fun i wr => ∃ k : Nat, k ≤ n ∧ i = .int .i64 k ∧ wr = w.alloc (.cells #[.int .i64 0, .int .u64 0] 32)) (fun i _ => n - (intOf i).toNat)
  case atStart => exact ⟨0, by omega, rfl, rfl⟩
  case round =>
    obtain ⟨k, hk, rfl, rfl⟩ := hrel
    by_cases hlt : k < n
    · obtain ⟨v, hv⟩ := hs k hlt
      have c2 := h1.what_at hlt
      rw [hv] at c2
      go_wp2_with fail
      refine (used_some g (k * 2) v _ c2).mono ?_
      rintro e w1 ⟨rfl, rfl⟩
      go_wp2
      go_roundw
      case rel => exact ⟨k + 1, by omega, by go_num, trivial⟩
      case measure => simp [intOf]; omega
    · go_wp2
      (try simp only [Exit.inBlock, Exit.then])
      refine bodyPost_ret (v := .tuple #[.agg #[.int .i64 0, .int .u64 0], .int .i64 4]) ?_ rfl ⟨rfl, hbel⟩
      simp [results, go_sem, b0, b1]
theorem Put_at (t g n : Nat) (gen : Nat → Int) (st : Nat → Option Int) (x : Int) (i : Nat) (w : World) (h : Tb w t g n gen st) (hn : n ≤ 1000) (hi : i < n) (hs : ∀ j, j < i → ∃ v, st j = some v) (hf : st i = none) :
    Calls Try.prog 13 #[.pointer (some ⟨t, 0, none⟩), .int .i64 x] w fun e w' => e = .returned (.tuple #[.agg #[.int .i64 i, .int .u64 (gen i)], .int .i64 0]) ∧ Tb w' t g n gen (fun j => if j = i then some x else st j) ∧ Only g w w' := by
  have h1 := h.alloc (.cells #[.int .i64 0, .int .u64 0] 32)
  have c0 := h1.c0
  have hB := Blk.new w 32 #[.int .i64 0, .int .u64 0]
  have hgn : g ≠ w.heap.size := by obtain ⟨arr, hb, _⟩ := h.row; have := hb.lt; omega
  have hbel : Below w.heap.size w (w.alloc (.cells #[.int .i64 0, .int .u64 0] 32)) := (Below.refl _ _).alloc (Nat.le_refl _) _
  have c2 := h1.what_at hi
  rw [hf] at c2
  have f2 := h1.frozen (i * 2 + 1)
  have h3 := h1.put hi (some x)
  have g3 := h3.gen_at hi
  have hB3 := hB.far (p := ⟨g, i * 2 + 1, none⟩) (Ne.symm hgn) (anyOf (some x))
  obtain ⟨b0, b1⟩ := hB3.two
  have f0 := hB3.frozen 0
  have f1 := hB3.frozen 1
  have h5 : Tb ((((w.alloc (.cells #[.int .i64 0, .int .u64 0] 32)).setCell ⟨g, i * 2 + 1, none⟩ (anyOf (some x))).setCell ⟨w.heap.size, 0, none⟩ (.int .i64 i)).setCell ⟨w.heap.size, 1, none⟩ (.int .u64 (gen i))) t g n gen (fun j => if j = i then some x else st j) := by
    obtain ⟨arr, hg, hz, ha⟩ := h3.row
    have ht : t ≠ w.heap.size := by have := h.blk.lt; omega
    exact ⟨h3.ne, (h3.blk.far (p := ⟨w.heap.size, 0, none⟩) ht _).far (p := ⟨w.heap.size, 1, none⟩) ht _, arr, (hg.far (p := ⟨w.heap.size, 0, none⟩) hgn _).far (p := ⟨w.heap.size, 1, none⟩) hgn _, hz, ha⟩
  have o5 : Only g w ((((w.alloc (.cells #[.int .i64 0, .int .u64 0] 32)).setCell ⟨g, i * 2 + 1, none⟩ (anyOf (some x))).setCell ⟨w.heap.size, 0, none⟩ (.int .i64 i)).setCell ⟨w.heap.size, 1, none⟩ (.int .u64 (gen i))) :=
    ((((Only.refl g w).alloc _).set_ (i * 2 + 1) _).setCell (p := ⟨w.heap.size, 0, none⟩) (Or.inr (Nat.le_refl _)) _).setCell (p := ⟨w.heap.size, 1, none⟩) (Or.inr (Nat.le_refl _)) _
  have H5 := Lib.hid h5
  have O5 := Lib.hid o5
  clear h5 o5 h3
  unfold anyOf at g3 b0 b1 f0 f1
  generalize gen i = gi at *
  go_enter Try.func13, Try.ntmps13
  go_wp2
  go_loopw [13] (fun j wr => ∃ k : Nat, k ≤ i ∧ j = .int .i64 k ∧ wr = w.alloc (.cells #[.int .i64 0, .int .u64 0] 32)) (fun j _ => n - (intOf j).toNat)
  case atStart => exact ⟨0, by omega, rfl, rfl⟩
  case round =>
    obtain ⟨k, hk, rfl, rfl⟩ := hrel
    by_cases hlt : k < i
    · obtain ⟨v, hv⟩ := hs k hlt
      have c3 := h1.what_at (show k < n by omega)
      rw [hv] at c3
      go_wp2_with fail
      refine (used_some g (k * 2) v _ c3).mono ?_
      rintro e w1 ⟨rfl, rfl⟩
      go_wp2
      go_roundw
      case rel => exact ⟨k + 1, by omega, by go_num, trivial⟩
      case measure => simp [intOf]; omega
    · obtain rfl : k = i := by omega
      go_wp2_with fail
      refine (used_none g (k * 2) _ c2).mono ?_
      rintro e w1 ⟨rfl, rfl⟩
      go_wp2
      (try simp only [Exit.inBlock, Exit.then])
      refine bodyPost_ret (v := .tuple #[.agg #[.int .i64 k, .int .u64 gi], .int .i64 0]) ?_ rfl ⟨rfl, H5.out, O5.out⟩
      have hB5 := (hB3.set_ 0 (.int .i64 k)).set_ 1 (.int .u64 gi)
      have q0 := hB5.cell 0
      have q1 := hB5.cell 1
      simp only [anyOf] at q0 q1
      simp at q0 q1
      simp [results, go_sem, q0, q1]
end Go.Proofs.Ytlpmnpmgehjmaaa
