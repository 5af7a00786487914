/- Layer 24: an engine in memory, and its small calls. Nothing of one law. -/
import Derived.Test.YtdjhpdacglojaaaGreatIqS
import Derived.Test.YtdjhpdacglojaaaGreatIoqW
import Derived.Test.YtdjhpdacglojaaaGreatBsA
import Derived.Deep.RegionHeld3
namespace Go.Proofs.YtdjhpdacglojaaaGreat
open Go.RowKit
set_option linter.unusedVariables false
set_option maxRecDepth 100000
set_option maxHeartbeats 1600000
/-- What the engine does: which descriptor, how far, how much. -/
structure Mv where
  no : Int
  at_ : Int
  sz : Int
deriving DecidableEq
def idleV : Mv := ⟨-1, 0, 0⟩
/-- It does nothing, or it is on its way. -/
def Mv.ok (m : Mv) : Prop := m = idleV ∨ ((0 ≤ m.no ∧ m.no ≤ 1000000) ∧ 0 ≤ m.at_ ∧ m.at_ < m.sz ∧ m.sz ≤ 65536)
abbrev engV (d b mb : Nat) (id : Int) (m : Mv) : Array Value := #[ptrV d, ptrV b, .int .i64 id, .int .i64 m.no, .int .i64 m.at_, .int .i64 m.sz, .map (some mb)]
def behM (e : Nat) : Int → Option Value := updI (updI (updI (fun _ => none) 0 (some (.func (Fn.func 94) #[ptrV e] #[]))) 1 (some (.func (Fn.func 95) #[ptrV e] #[]))) 2 (some (.func (Fn.func 96) #[ptrV e] #[]))
/-- The engine, and the bus, among the things beside a device. -/
abbrev EngX (e b g mb d : Nat) (mp : Nat → Nat) (C : bs.BC) (id : Int) (m : Mv) (s : bs.BS) : List Res :=
  [BlkR e 151 (engV d b mb id m), MapR Tryz.prog 3 mb 3 (behM e), bs.BusP C b g mp s]
/-- A finish. -/
def FinE (D : Dv) (no stt : Int) (bad : Bool) (D' : Dv) : Prop := ∃ f g' k, ri.FinP D.g no stt f g' ∧ (f = 0 → D.pst no = some k ∧ k < D.nx) ∧ D' = D.finD f g' k bad
/-- A descriptor is taken, if there is one. -/
def TkE (n : Nat) (D : Dv) (m : Mv) (D' : Dv) (m' : Mv) : Prop :=
  (D.g.taken = D.g.put ∧ D' = D ∧ m' = m) ∨
  (D.g.taken < D.g.put ∧ m' = ⟨(D.g.taken : Int), 0, (D.g.D D.g.taken).len⟩ ∧ ∃ k st', D.pst (D.g.taken : Int) = some k ∧ k < D.nx ∧ KeepS n D.st st' ∧ ((D.rq k).vo = true → st' = D.st) ∧ D' = D.tkD 0 ⟨D.g.put, D.g.taken + 1, D.g.reaped, D.g.D⟩ k st')
/-- A byte is written. -/
def WrE (n : Nat) (D : Dv) (m : Mv) (x : Int) (D' : Dv) (m' : Mv) : Prop := ∃ cw st', WrP n D m.no m.at_ [x] cw st' ∧
  ((cw ≠ 0 ∧ FinE { D with st := st' } m.no 1 true D' ∧ m' = idleV) ∨
   (cw = 0 ∧ m.at_ + 1 < m.sz ∧ D' = { D with st := st' } ∧ m' = ⟨m.no, m.at_ + 1, m.sz⟩) ∨
   (cw = 0 ∧ ¬ m.at_ + 1 < m.sz ∧ FinE { D with st := st' } m.no 0 false D' ∧ m' = idleV))
section
variable {w0 w : World} {S0 : Nat → Prop} {X N L : List Res} {a : Da} {n sz : Nat} {G : Int} {bp : Nat → Nat} {D D' : Dv} {e b g mb : Nat} {mp : Nat → Nat} {C : bs.BC} {id : Int} {m m' : Mv} {s : bs.BS}
theorem Blk.seven7 {t : TypeId} {q : Nat} {d b mb : Nat} {id : Int} {m : Mv} (h : Blk w q t (engV d b mb id m)) : w.cell? ⟨q, 0, none⟩ = some (ptrV d) ∧ w.cell? ⟨q, 1, none⟩ = some (ptrV b) ∧ w.cell? ⟨q, 2, none⟩ = some (.int .i64 id) ∧ w.cell? ⟨q, 3, none⟩ = some (.int .i64 m.no) ∧ w.cell? ⟨q, 4, none⟩ = some (.int .i64 m.at_) ∧ w.cell? ⟨q, 5, none⟩ = some (.int .i64 m.sz) ∧ w.cell? ⟨q, 6, none⟩ = some (.map (some mb)) := h.seven
theorem busy_c (h : Blk w e 151 (engV a.d b mb id m)) : Calls Tryz.prog 60 #[ptrV e] w fun r w' => r = .returned (.bool (decide (0 ≤ m.no))) ∧ w' = w := by
  obtain ⟨-, -, -, c3, -, -, -⟩ := h.seven7
  clear h
  go_enter Tryz.func60, Tryz.ntmps60
  go_wp2_with fail
  go_ret
  exact ⟨rfl, rfl⟩
theorem idle_c (w : World) : Calls Tryz.prog 93 #[] w fun r w' => r = .returned (.agg #[.int .i64 (-1), .int .i64 0, .int .i64 0]) ∧ Below w.heap.size w w' := by
  go_enter Tryz.func93, Tryz.ntmps93
  go_wp2_with fail
  refine bodyPost_ret (v := .agg #[.int .i64 (-1), .int .i64 0, .int .i64 0]) ?_ rfl ⟨rfl, (Below.refl _ _).alloc (Nat.le_refl _) _⟩
  simp [results, go_sem]
end
end Go.Proofs.YtdjhpdacglojaaaGreat
