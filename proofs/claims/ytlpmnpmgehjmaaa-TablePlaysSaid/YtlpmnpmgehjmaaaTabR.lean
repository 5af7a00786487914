/- Layer 2: the document's own table. -/
import Derived.Test.YtlpmnpmgehjmaaaTabL
import Derived.BigRegion
import Derived.Deep.DeepCutAuto
namespace Go.Proofs.Ytlpmnpmgehjmaaa
open Go.RowKit
set_option linter.unusedVariables false
set_option maxRecDepth 100000
abbrev RefL (r gb ub vb n : Nat) (gen : Nat → Int) (st : Nat → Option Int) (V : Nat → Int) : List Res :=
  [BlkR r 64 #[.slice (some ⟨gb, 0, none⟩) n n, .slice (some ⟨ub, 0, none⟩) n n, .slice (some ⟨vb, 0, none⟩) n n],
    ArrR gb 30 n (fun i => .int .u64 (gen i)), ArrR ub 4 n (fun i => .bool (st i).isSome), ArrR vb 3 n (fun i => .int .i64 (V i))]
/-- The document's table: the generations, what is used, the values (of used ones alone it is known what they are). -/
def RefR (r n : Nat) (gen : Nat → Int) (st : Nat → Option Int) : Res := fun w S => ∃ gb ub vb V, (∀ i, i < n → ∀ v, st i = some v → V i = v) ∧ Star (RefL r gb ub vb n gen st V) w S
theorem RefR.ok (r n : Nat) (gen : Nat → Int) (st : Nat → Option Int) : Ok (RefR r n gen st) :=
  ⟨fun ⟨_, _, _, _, _, h⟩ => (Star.ok _).lt h, fun ⟨gb, ub, vb, V, hV, h⟩ hk => ⟨gb, ub, vb, V, hV, (Star.ok _).frame h hk⟩⟩
section
variable {n : Nat} {gen gen' : Nat → Int} {st st' : Nat → Option Int} {s c v f x : Int} {w0 w : World} {S0 : Nat → Prop} {L : List Res} {r gb ub vb : Nat} {V : Nat → Int}
theorem Live_no (H : St w0 S0 w (RefL r gb ub vb n gen st V ++ L)) (hn : n ≤ 1000) (hs : Stale n gen st s c) :
    Calls Try.prog 28 #[.pointer (some ⟨r, 0, none⟩), .agg #[.int .i64 s, .int .u64 c]] w fun e w' => e = .returned (.bool false) ∧ Below w.heap.size w w' := by
  obtain ⟨c0, c1, c2⟩ := (H.blk 0 rfl).three
  have c0 := cell_alloc c0 (.cells #[.int .i64 s, .int .u64 c] 32)
  have c1 := cell_alloc c1 (.cells #[.int .i64 s, .int .u64 c] 32)
  obtain ⟨b0, b1⟩ := (Blk.new w 32 #[.int .i64 s, .int .u64 c]).two
  have hbel : Below w.heap.size w (w.alloc (.cells #[.int .i64 s, .int .u64 c] 32)) := (Below.refl _ _).alloc (Nat.le_refl _) _
  by_cases h0 : s < 0
  · have d0 : decide (0 ≤ s) = false := decide_eq_false (by omega)
    clear hs
    go_enter Try.func28, Try.ntmps28
    go_wp2_with fail
    go_quiet (fail)
    go_wp2_with fail
    go_ret
    exact ⟨rfl, below_drewN hbel _⟩
  · have d0 : decide (0 ≤ s) = true := decide_eq_true (by omega)
    by_cases h1 : (n : Int) ≤ s
    · have d1 : decide (s < (n : Int)) = false := decide_eq_false (by omega)
      clear hs
      go_enter Try.func28, Try.ntmps28
      go_wp2_with fail
      go_quiet (fail)
      go_wp2_with fail
      go_ret
      exact ⟨rfl, below_drewN hbel _⟩
    · obtain ⟨i, rfl⟩ : ∃ i : Nat, (i : Int) = s := ⟨s.toNat, by omega⟩
      have hi : i < n := by omega
      have d1 : decide ((i : Int) < (n : Int)) = true := decide_eq_true (by omega)
      have i0 : (0 : Int) ≤ (i : Int) := by omega
      have i1 : (i : Int) < (n : Int) := by omega
      have cu := cell_alloc (H.arr_cell 2 rfl hi) (.cells #[.int .i64 i, .int .u64 c] 32)
      cases hv : st i with
      | none =>
        rw [hv] at cu
        simp only [Option.isSome_none] at cu
        clear hs hv
        go_enter Try.func28, Try.ntmps28
        go_wp2_with fail
        go_quiet (fail)
        go_wp2_with fail
        go_ret
        exact ⟨rfl, below_drewN hbel _⟩
      | some v =>
        rw [hv] at cu
        simp only [Option.isSome_some] at cu
        have cg := cell_alloc (H.arr_cell 1 rfl hi) (.cells #[.int .i64 i, .int .u64 c] 32)
        have hne : gen i ≠ c := by
          rcases hs with h | h | h | h
          · omega
          · omega
          · simp at h; rw [h] at hv; cases hv
          · simpa using h
        generalize gen i = gi at *
        have z0 : (gi == c) = false := beq_eq_false_iff_ne.2 hne
        clear hs hv hne
        go_enter Try.func28, Try.ntmps28
        go_wp2_with fail
        go_quiet (fail)
        go_wp2_with fail
        go_ret
        exact ⟨rfl, below_drewN hbel _⟩
theorem Live_yes (H : St w0 S0 w (RefL r gb ub vb n gen st V ++ L)) (hn : n ≤ 1000) (i : Nat) (v : Int) (hi : i < n) (hv : st i = some v) :
    Calls Try.prog 28 #[.pointer (some ⟨r, 0, none⟩), .agg #[.int .i64 i, .int .u64 (gen i)]] w fun e w' => e = .returned (.bool true) ∧ Below w.heap.size w w' := by
  obtain ⟨c0, c1, c2⟩ := (H.blk 0 rfl).three
  have c0 := cell_alloc c0 (.cells #[.int .i64 i, .int .u64 (gen i)] 32)
  have c1 := cell_alloc c1 (.cells #[.int .i64 i, .int .u64 (gen i)] 32)
  obtain ⟨b0, b1⟩ := (Blk.new w 32 #[.int .i64 i, .int .u64 (gen i)]).two
  have hbel : Below w.heap.size w (w.alloc (.cells #[.int .i64 i, .int .u64 (gen i)] 32)) := (Below.refl _ _).alloc (Nat.le_refl _) _
  have d0 : decide (0 ≤ (i : Int)) = true := decide_eq_true (by omega)
  have d1 : decide ((i : Int) < (n : Int)) = true := decide_eq_true (by omega)
  have i0 : (0 : Int) ≤ (i : Int) := by omega
  have i1 : (i : Int) < (n : Int) := by omega
  have cu := cell_alloc (H.arr_cell 2 rfl hi) (.cells #[.int .i64 i, .int .u64 (gen i)] 32)
  rw [hv] at cu
  simp only [Option.isSome_some] at cu
  have cg := cell_alloc (H.arr_cell 1 rfl hi) (.cells #[.int .i64 i, .int .u64 (gen i)] 32)
  clear H hv
  generalize gen i = gi at *
  go_enter Try.func28, Try.ntmps28
  go_wp2_with fail
  go_quiet (fail)
  go_wp2_with fail
  go_ret
  exact ⟨rfl, below_drewN hbel _⟩
end
end Go.Proofs.Ytlpmnpmgehjmaaa
