/- Layer 10: the program's ring: a number's place, what lies there, New, Put, Take. -/
import Derived.Test.YtboepnfekfhppaaRingM
import Derived.StillTailTactics
import Derived.WalkMore
namespace Go.Proofs.Ytboepnfekfhppaa
open Go.RowKit
set_option linter.unusedVariables false
set_option maxRecDepth 100000
set_option maxHeartbeats 1000000
theorem Try.infoAny : (Try.prog.info? 20).map (fun i => (i.zero, i.size, i.bytes)) = some (some .nilIface, 1, 16) := by kernel_rfl
theorem any_parts {P : Program} {t : TypeId} {z : Value} {s b : Nat} (h : (P.info? t).map (fun i => (i.zero, i.size, i.bytes)) = some (some z, s, b)) : ∃ i, P.info? t = some i ∧ i.zero = some z ∧ i.size = s ∧ i.bytes = b := by
  cases hi : P.info? t with
  | none => rw [hi] at h; cases h
  | some i =>
    rw [hi] at h
    simp at h
    exact ⟨i, rfl, h.1, h.2.1, h.2.2⟩
@[go_sem] theorem asD_some (v : Value) (xT : TypeId) (w : World) : (Instr.typeAssert (.iface 36 v) xT 36 true).run Try.prog w = .ok (.tuple #[v, .bool true]) w := by kernel_rfl
@[go_sem] theorem asD_none (xT : TypeId) (w : World) : (Instr.typeAssert .nilIface xT 36 true).run Try.prog w = .ok (.tuple #[.agg #[.int .i64 0, .int .i64 0, .int .i64 0, .int .u64 0, .int .i64 0, .int .i64 0, .bool false, .bool false, .int .i64 0], .bool false]) w := by kernel_rfl
@[go_sem] theorem asD_must (v : Value) (xT : TypeId) (w : World) : (Instr.typeAssert (.iface 36 v) xT 36 false).run Try.prog w = .ok v w := by kernel_rfl
theorem dsc9 (d : Dsc) (W : World) (G : Nat) (h : Blk W G 36 d.cells) : W.cell? ⟨G, 0, none⟩ = some (.int .i64 d.op) ∧ W.cell? ⟨G, 1, none⟩ = some (.int .i64 d.req) ∧ W.cell? ⟨G, 2, none⟩ = some (.int .i64 d.slot) ∧ W.cell? ⟨G, 3, none⟩ = some (.int .u64 d.gen) ∧ W.cell? ⟨G, 4, none⟩ = some (.int .i64 d.frm) ∧ W.cell? ⟨G, 5, none⟩ = some (.int .i64 d.len) ∧ W.cell? ⟨G, 6, none⟩ = some (.bool d.dv) ∧ W.cell? ⟨G, 7, none⟩ = some (.bool d.dn) ∧ W.cell? ⟨G, 8, none⟩ = some (.int .i64 d.st) := by
  refine ⟨?_, ?_, ?_, ?_, ?_, ?_, ?_, ?_, ?_⟩ <;> rw [h.cell] <;> rfl
theorem frz9 {W : World} {G : Nat} {t : TypeId} {cs : Array Value} (h : Blk W G t cs) : W.frozen? ⟨G, 0, none⟩ = false ∧ W.frozen? ⟨G, 1, none⟩ = false ∧ W.frozen? ⟨G, 2, none⟩ = false ∧ W.frozen? ⟨G, 3, none⟩ = false ∧ W.frozen? ⟨G, 4, none⟩ = false ∧ W.frozen? ⟨G, 5, none⟩ = false ∧ W.frozen? ⟨G, 6, none⟩ = false ∧ W.frozen? ⟨G, 7, none⟩ = false ∧ W.frozen? ⟨G, 8, none⟩ = false :=
  ⟨h.frozen 0, h.frozen 1, h.frozen 2, h.frozen 3, h.frozen 4, h.frozen 5, h.frozen 6, h.frozen 7, h.frozen 8⟩
theorem lis_cell0 {w : World} {e : TypeId} {size n g cap : Nat} {xs : List Value} (h : Lis w e size (.slice (some ⟨g, 0, none⟩) n cap) n xs) {j : Nat} {u : Value} (hu : xs[j]? = some u) : w.cell? ⟨g, j, none⟩ = some u := by
  rcases h.2 with ⟨h, _⟩ | ⟨g', off, cp, arr, hv, hh, hn, hm, hs, hx⟩
  · cases h
  · injection hv with hA
    injection hA with hA
    injection hA with hA ho
    subst hA ho
    have := hx j u hu
    simpa [World.cell?, hh] using this
section
variable {w0 w : World} {S0 S : Nat → Prop} {L : List Res} {p g n : Nat} {s s' : RSt}
theorem ring4 {w : World} (h : Blk w p 62 #[.slice (some ⟨g, 0, none⟩) n n, .int .i64 s.put, .int .i64 s.taken, .int .i64 s.reaped]) : w.cell? ⟨p, 0, none⟩ = some (.slice (some ⟨g, 0, none⟩) n n) ∧ w.cell? ⟨p, 1, none⟩ = some (.int .i64 s.put) ∧ w.cell? ⟨p, 2, none⟩ = some (.int .i64 s.taken) ∧ w.cell? ⟨p, 3, none⟩ = some (.int .i64 s.reaped) := h.four
theorem place_c (h : w.cell? ⟨p, 0, none⟩ = some (.slice (some ⟨g, 0, none⟩) n n)) (h0 : 1 ≤ n) (h1 : n ≤ 64) (no : Nat) (hm : no ≤ 1000000) :
    Calls Try.prog 26 #[.pointer (some ⟨p, 0, none⟩), .int .i64 no] w fun e w' => e = .returned (.int .i64 ((no % n : Nat) : Int)) ∧ w' = w := by
  have hr : Int.tmod (no : Int) (n : Int) = ((no % n : Nat) : Int) := by
    rw [Int.tmod_eq_emod_of_nonneg (by omega)]; exact (Int.natCast_emod no n).symm
  have hl := Nat.mod_lt no (show 0 < n by omega)
  obtain ⟨j, hj⟩ : ∃ j, no % n = j := ⟨_, rfl⟩
  rw [hj] at hr hl ⊢
  have HJ := Lib.hid hj
  clear hj
  have hz : ((n : Int) == 0) = false := beq_eq_false_iff_ne.2 (by omega)
  go_enter Try.func26, Try.ntmps26
  go_wp2_with fail
  go_ret
  exact ⟨rfl, rfl⟩
end
end Go.Proofs.Ytboepnfekfhppaa
