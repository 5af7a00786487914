/- Layer 19: a book: Count, Has; a request comes out. -/
import Derived.Test.YthdhfjcgboglfaaLifeM
import Derived.BigQuiet
import Derived.Deep.RegionLaw
import Derived.RegionTactic
namespace Go.Proofs.Ythdhfjcgboglfaa
open Go.RowKit
set_option linter.unusedVariables false
set_option maxRecDepth 100000
set_option maxHeartbeats 2000000
theorem YthdhfjcgboglfaazOpen (W : World) : (zeroValue 67).run Try.prog W = .ok (.agg #[.int .i64 0, .int .u64 0]) W := by kernel_rfl
theorem YthdhfjcgboglfaaiFt : (Try.prog.info? 50).map (fun i => (i.zero, i.size, i.bytes)) = some (some (.agg #[.int .i64 0, .int .i64 0, .int .i64 0]), 3, 24) := by kernel_rfl
theorem info3l {P : Program} {t : TypeId} {z : Value} {s b : Nat} (h : (P.info? t).map (fun i => (i.zero, i.size, i.bytes)) = some (some z, s, b)) : ∃ i, P.info? t = some i ∧ i.zero = some z ∧ i.size = s ∧ i.bytes = b := by
  cases hi : P.info? t with
  | none => rw [hi] at h; cases h
  | some i => rw [hi] at h; simp at h; exact ⟨i, rfl, h.1, h.2.1, h.2.2⟩
def deadO (op : Nat → Option (Int × Int)) (id : Int) : Int := match slotO op id with
  | some k => ((op k).getD (0, 0)).2
  | none => 0
section
variable {w0 w w' : World} {S0 : Nat → Prop} {L X : List Res} {b cw mb cap : Nat} {A : Option Addr} {s : Bk} {id : Int}
theorem bk_cell (H : St w0 S0 w (BookL b cw mb A cap s ++ X)) {j : Nat} (hj : j < 68) : w.cell? ⟨b, j, none⟩ = some (bkV s cw mb A cap j) := H.arr_cell 0 rfl hj
theorem bk_frozen (H : St w0 S0 w (BookL b cw mb A cap s ++ X)) (j : Nat) : w.frozen? ⟨b, j, none⟩ = false := H.arr_frozen 0 rfl j
theorem bk_look (H : St w0 S0 w (BookL b cw mb A cap s ++ X)) (hid : wfI id) : (Instr.lookup 62 (.map (some mb)) (.int .i64 id) true).run Try.prog w = .ok (.tuple #[(mapO s.op id).getD (.agg #[.int .i64 0, .int .u64 0]), .bool (slotO s.op id).isSome]) w := by
  have h := (H.mapz 2 rfl).mapi.look Try.underlying3 Try.underlying62 (YthdhfjcgboglfaazOpen w) hid
  have e : (mapO s.op id).isSome = (slotO s.op id).isSome := by unfold mapO; simp
  rw [e] at h; exact h
theorem lCount_c (H : St w0 S0 w (BookL b cw mb A cap s ++ X)) : Calls Try.prog 21 #[.pointer (some ⟨b, 0, none⟩)] w fun e w' => e = .returned (.int .i64 (cntO s.op)) ∧ w' = w := by
  have c2 := bk_cell H (j := 2) (by omega)
  unfold bkV at c2
  rw [if_neg (by omega), if_neg (by omega), if_pos rfl] at c2
  have ln := (H.mapz 2 rfl).len Try.underlying62
  clear H
  go_enter Try.func21, Try.ntmps21
  go_wp2_with fail
  go_ret
  exact ⟨rfl, rfl⟩
theorem lHas_c (H : St w0 S0 w (BookL b cw mb A cap s ++ X)) (hid : wfI id) : Calls Try.prog 20 #[.pointer (some ⟨b, 0, none⟩), .int .i64 id] w fun e w' => e = .returned (.tuple #[.int .u64 (deadO s.op id), .bool (slotO s.op id).isSome]) ∧ St w0 S0 w' (BookL b cw mb A cap s ++ X) := by
  have c2 := bk_cell H (j := 2) (by omega)
  unfold bkV at c2
  rw [if_neg (by omega), if_neg (by omega), if_pos rfl] at c2
  have lk := bk_look H hid
  have HH := Lib.hid H
  clear H
  cases hs : slotO s.op id with
  | none =>
    have e1 : deadO s.op id = 0 := by unfold deadO; rw [hs]
    have e2 : mapO s.op id = none := by unfold mapO; rw [hs]; rfl
    rw [hs, e2] at lk
    rw [e1]
    have lk : (Instr.lookup 62 (.map (some mb)) (.int .i64 id) true).run Try.prog w = .ok (.tuple #[.agg #[.int .i64 0, .int .u64 0], .bool false]) w := lk
    clear hs e1 e2
    go_enter Try.func20, Try.ntmps20
    go_wp2_with fail
    go_ret2
    exact ⟨rfl, HH.out.alloc _⟩
  | some k =>
    obtain ⟨d, hd⟩ : ∃ d, deadO s.op id = d := ⟨_, rfl⟩
    have e2 : mapO s.op id = some (.agg #[.int .i64 (k : Int), .int .u64 d]) := by
      unfold mapO; rw [hs, ← hd]; unfold deadO; rw [hs]; rfl
    rw [hs, e2] at lk
    rw [hd]
    have lk : (Instr.lookup 62 (.map (some mb)) (.int .i64 id) true).run Try.prog w = .ok (.tuple #[.agg #[.int .i64 (k : Int), .int .u64 d], .bool true]) w := lk
    clear hs e2 hd
    go_enter Try.func20, Try.ntmps20
    go_wp2_with fail
    go_ret2
    exact ⟨rfl, HH.out.alloc _⟩
end
end Go.Proofs.Ythdhfjcgboglfaa
