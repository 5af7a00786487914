/- Layer 10: steps of a script that came in. -/
import Derived.Test.YtboepnfekfhppaaRingV
import Derived.Test.YtboepnfekfhppaaOpen
namespace Go.Proofs.Ytboepnfekfhppaa
open Go.RowKit
set_option linter.unusedVariables false
set_option maxRecDepth 100000
set_option maxHeartbeats 1000000
structure RDo where
  z : Int
  d : Dsc
  no : Int
  st : Int
instance : Inhabited RDo := ⟨⟨0, dZ, 0, 0⟩⟩
def RDo.v (x : RDo) : Nat → Value
  | 0 => .int .i64 x.z
  | 1 => .int .i64 x.d.op
  | 2 => .int .i64 x.d.req
  | 3 => .int .i64 x.d.slot
  | 4 => .int .u64 x.d.gen
  | 5 => .int .i64 x.d.frm
  | 6 => .int .i64 x.d.len
  | 7 => .bool x.d.dv
  | 8 => .bool x.d.dn
  | 9 => .int .i64 x.d.st
  | 10 => .int .i64 x.no
  | _ => .int .i64 x.st
def RDo.cells (x : RDo) : Array Value := #[.int .i64 x.z, .int .i64 x.d.op, .int .i64 x.d.req, .int .i64 x.d.slot, .int .u64 x.d.gen, .int .i64 x.d.frm, .int .i64 x.d.len, .bool x.d.dv, .bool x.d.dn, .int .i64 x.d.st, .int .i64 x.no, .int .i64 x.st]
/-- Steps that can be read. -/
structure Rs (w : World) (A : Option Addr) (n : Nat) (E : Nat → RDo) : Prop where
  rd : RdM w A n 12 (fun j => (E j).v)
  fits : ∀ j, j < n → (E j).d.fits
theorem Rs.at_ {w wr : World} {A : Option Addr} {n : Nat} {E : Nat → RDo} (h : Rs w A n E) (hb : Below w.heap.size w wr) {k : Nat} (hk : k < n) :
    ∃ b off, A = some ⟨b, off, none⟩ ∧ wr.cell? ⟨b, off + k * 12, none⟩ = some (.int .i64 (E k).z) ∧ wr.cell? ⟨b, off + k * 12 + 1, none⟩ = some (.int .i64 (E k).d.op) ∧ wr.cell? ⟨b, off + k * 12 + 2, none⟩ = some (.int .i64 (E k).d.req) ∧ wr.cell? ⟨b, off + k * 12 + 3, none⟩ = some (.int .i64 (E k).d.slot) ∧ wr.cell? ⟨b, off + k * 12 + 4, none⟩ = some (.int .u64 (E k).d.gen) ∧ wr.cell? ⟨b, off + k * 12 + 5, none⟩ = some (.int .i64 (E k).d.frm) ∧ wr.cell? ⟨b, off + k * 12 + 6, none⟩ = some (.int .i64 (E k).d.len) ∧ wr.cell? ⟨b, off + k * 12 + 7, none⟩ = some (.bool (E k).d.dv) ∧ wr.cell? ⟨b, off + k * 12 + 8, none⟩ = some (.bool (E k).d.dn) ∧ wr.cell? ⟨b, off + k * 12 + 9, none⟩ = some (.int .i64 (E k).d.st) ∧ wr.cell? ⟨b, off + k * 12 + 10, none⟩ = some (.int .i64 (E k).no) ∧ wr.cell? ⟨b, off + k * 12 + 11, none⟩ = some (.int .i64 (E k).st) := by
  obtain ⟨b, off, e, hlt, hc⟩ := h.rd (by omega)
  have g := fun i (hi : i < 12) => (hb.cell (p := ⟨b, off + (k * 12 + i), none⟩) hlt).trans (hc k hk i hi)
  simp only [← Nat.add_assoc] at g
  exact ⟨b, off, e, g 0 (by omega), g 1 (by omega), g 2 (by omega), g 3 (by omega), g 4 (by omega), g 5 (by omega), g 6 (by omega), g 7 (by omega), g 8 (by omega), g 9 (by omega), g 10 (by omega), g 11 (by omega)⟩
theorem do12 {w : World} {g : Nat} {t : TypeId} {x : RDo} (h : Blk w g t x.cells) : w.cell? ⟨g, 0, none⟩ = some (.int .i64 x.z) ∧ w.cell? ⟨g, 1, none⟩ = some (.int .i64 x.d.op) ∧ w.cell? ⟨g, 2, none⟩ = some (.int .i64 x.d.req) ∧ w.cell? ⟨g, 3, none⟩ = some (.int .i64 x.d.slot) ∧ w.cell? ⟨g, 4, none⟩ = some (.int .u64 x.d.gen) ∧ w.cell? ⟨g, 5, none⟩ = some (.int .i64 x.d.frm) ∧ w.cell? ⟨g, 6, none⟩ = some (.int .i64 x.d.len) ∧ w.cell? ⟨g, 7, none⟩ = some (.bool x.d.dv) ∧ w.cell? ⟨g, 8, none⟩ = some (.bool x.d.dn) ∧ w.cell? ⟨g, 9, none⟩ = some (.int .i64 x.d.st) ∧ w.cell? ⟨g, 10, none⟩ = some (.int .i64 x.no) ∧ w.cell? ⟨g, 11, none⟩ = some (.int .i64 x.st) := by
  refine ⟨?_, ?_, ?_, ?_, ?_, ?_, ?_, ?_, ?_, ?_, ?_, ?_⟩ <;> rw [h.cell] <;> rfl
theorem rr_four {w : World} {p n : Nat} {s : RSt} {S : Nat → Prop} (h : RRR p n s w S) : ∃ A c, w.cell? ⟨p, 0, none⟩ = some (.int .i64 n) ∧ w.cell? ⟨p, 1, none⟩ = some (.slice A s.put c) ∧ w.cell? ⟨p, 2, none⟩ = some (.int .i64 s.taken) ∧ w.cell? ⟨p, 3, none⟩ = some (.int .i64 s.reaped) := by
  obtain ⟨A, c, hr⟩ := h
  exact ⟨A, c, rr4 ((St.start hr).blk 0 rfl)⟩
theorem rrr_new {w0 w : World} {S0 : Nat → Prop} {L : List Res} (H : St w0 S0 w L) (n : Nat) : St w0 S0 (w.alloc (.cells #[.int .i64 n, .slice none 0 0, .int .i64 0, .int .i64 0] 31)) (L ++ [RRR w.heap.size n RSt.new]) := by
  have h := (H.box 31 #[.int .i64 n, .slice none 0 0, .int .i64 0, .int .i64 0]).lis_nil 36 9
  rw [List.append_assoc] at h
  exact h.fold (RRR.ok _ _ _) fun S h => ⟨none, 0, h⟩
theorem FinP.fine_ok {n : Nat} {s s' : RSt} {no st f : Int} (h : FinP s no st f s') (hs : s.ok n) (hf : s.fine) : s'.ok n ∧ s'.fine ∧ s'.put ≤ s.put + 1 := ⟨(h.ok hs).1, h.fine hf, by rw [(h.ok hs).2]; omega⟩
theorem TakeP.fine_ok {n : Nat} {s s' : RSt} {a f : Int} {d : Dsc} (h : TakeP s a d f s') (hs : s.ok n) (hf : s.fine) : s'.ok n ∧ s'.fine ∧ s'.put ≤ s.put + 1 := ⟨(h.ok hs).1, h.fine hf, by rw [(h.ok hs).2]; omega⟩
theorem ReapP.fine_ok {n : Nat} {s s' : RSt} {d : Dsc} {f : Int} (h : ReapP s d f s') (hs : s.ok n) (hf : s.fine) : s'.ok n ∧ s'.fine ∧ s'.put ≤ s.put + 1 := ⟨(h.ok hs hf).1, h.fine hf, by rw [(h.ok hs hf).2]; omega⟩
theorem PutP.fine_ok {n : Nat} {s s' : RSt} {d : Dsc} {a f : Int} (h : PutP n s d a f s') (hs : s.ok n) (hf : s.fine) (hm : s.put + 1 ≤ 1000000) : s'.ok n ∧ s'.fine ∧ s'.put ≤ s.put + 1 := ⟨(h.ok hs hm).1, h.fine hf, (h.ok hs hm).2⟩
theorem RSt.new_fine_ok {n : Nat} (s : RSt) (h0 : 1 ≤ n) (h1 : n ≤ 64) : RSt.new.ok n ∧ RSt.new.fine ∧ RSt.new.put ≤ s.put + 1 := ⟨RSt.new_ok h0 h1, RSt.new_fine, by show 0 ≤ s.put + 1; omega⟩
end Go.Proofs.Ytboepnfekfhppaa
