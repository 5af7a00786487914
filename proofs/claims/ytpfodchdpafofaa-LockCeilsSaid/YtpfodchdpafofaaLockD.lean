/- Layer 23: who holds a lock; something is done with a member and a lock. -/
import Derived.Test.YtpfodchdpafofaaLockC
import Derived.Test.YtpfodchdpafofaaFr
import Derived.WalkMore
namespace Go.Proofs.Ytpfodchdpafofaa
open Go.RowKit
set_option linter.unusedVariables false
set_option maxRecDepth 100000
set_option maxHeartbeats 1000000
theorem below_grown {w0 w w' : World} {r : Nat} (h : Below w0.heap.size w0 w) (hg : w.grownBy w' (some r)) (hr : w0.heap.size ≤ r) : Below w0.heap.size w0 w' :=
  ⟨hg.os.trans h.os, hg.tape.trans h.tape, hg.output.trans h.output, Nat.le_trans h.size hg.size, fun j hj => (hg.block j (Nat.lt_of_lt_of_le hj h.size) (fun e => by injection e with e; omega)).trans (h.block j hj)⟩
theorem below_none {w0 w w' : World} (h : Below w0.heap.size w0 w) (hg : w.grownBy w' none) : Below w0.heap.size w0 w' :=
  ⟨hg.os.trans h.os, hg.tape.trans h.tape, hg.output.trans h.output, Nat.le_trans h.size hg.size, fun j hj => (hg.block j (Nat.lt_of_lt_of_le hj h.size) (by simp)).trans (h.block j hj)⟩
section
variable {w0 w w' : World} {S0 S : Nat → Prop} {L : List Res} {k c b N : Nat} {A : Option Addr} {ptr : Nat → Nat} {s s' : KS}
theorem KV.below (V : KV w k A c b N ptr s) (hb : Below w.heap.size w w') : KV w' k A c b N ptr s := by
  have cl : ∀ {p : Addr} {v : Value}, w.cell? p = some v → w'.cell? p = some v := fun {p v} h => by
    rw [hb.cell (Go.Proofs.Ytpfodchdpafofaa.block_lt h)]; exact h
  have ll : ∀ {e : TypeId} {z : Nat} {v : Value} {n : Nat} {xs : List Value}, Lis w e z v n xs → Lis w' e z v n xs := fun h => h.keep fun g hg => hb.block g (h.lt hg)
  refine ⟨cl V.c0, cl V.c1, ll V.cl, V.mp.keep (hb.block b V.mp.lt), fun i m hi hm => ?_⟩
  obtain ⟨B, d, h1, h2, h3⟩ := V.me i m hi hm
  exact ⟨B, d, cl h1, cl h2, ll h3⟩
theorem Holder_c (V : KV w k A c b N ptr s) (hs : s.ok) (y : Nat) (o : Option Nat) (ho : ∀ i, holds s i y ↔ o = some i) :
    Calls Try.prog 17 #[.pointer (some ⟨k, 0, none⟩), .int .i64 (y : Int)] w fun e w' => e = .returned (.tuple #[.int .i64 ((o.getD 0 : Nat) : Int), .bool o.isSome]) ∧ Below w.heap.size w w' := by
  have VV := Lib.hid V
  have HS := Lib.hid hs
  have HO := Lib.hid ho
  have c1 := V.c1
  have MP := Lib.hid V.mp
  clear V hs ho
  go_enter Try.func17, Try.ntmps17
  go_wp2_with (first
    | (at_range; refine wpList_mapI_range rfl _ 48 rfl 3 52 Try.underlying3 Try.underlying48 b N (mapOf s ptr) rfl MP.out ?_; intro w1 cnt0 hit0 hg0 hsz0)
    | fail)
  go_frame
  have HB0 := Lib.hid (below_none (Below.refl _ _) hg0)
  have HI0 := Lib.hid hit0
  clear hit0 hg0 hsz0 c1
  go_loopw [6] (fun _ wr => ∃ (left : Int → Bool) (cnt : Nat), IterI wr Try.prog 3 b w.heap.size N (mapOf s ptr) left cnt ∧ Below w.heap.size w wr ∧ (∀ i : Nat, o = some i → left (i : Int) = true)) (fun _ wr => wr.rangeLeft b w.heap.size)
  case atStart => exact ⟨_, _, HI0.out, HB0.out, fun i hi => by
    obtain ⟨m, hm, _⟩ := (HO.out i).2 hi
    show (mapOf s ptr (i : Int)).isSome = true
    rw [mapOf_some hm]; rfl⟩
  case round =>
  clear HI0 HB0
  obtain ⟨left, cnt, hit, hbr, hle⟩ := hrel
  have HBR := Lib.hid hbr
  have HLE := Lib.hid hle
  have HIT := Lib.hid hit
  clear hbr hle hit
  go_wp2_with (first
    | (at_next; refine wpList_mapI_next rfl _ rfl 3 Try.underlying3 b w.heap.size N (mapOf s ptr) left cnt rfl HIT.out ?_ ?_)
    | fail)
  · intro _ hl0
    have HL0 := Lib.hid hl0
    clear hl0
    obtain rfl : o = none := by
      cases o with
      | none => rfl
      | some i =>
        obtain ⟨m, hm, _⟩ := (HO.out i).2 rfl
        have h1 := HLE.out i rfl
        rw [HL0.out i (wf_id (HS.out.id i m hm))] at h1; cases h1
    go_wp2_with fail
    go_ret2
    exact ⟨rfl, HBR.out⟩
  · intro x v w1 cnt1 hwx hlx hat hit1 hlt hg1 hs1 hen
    obtain ⟨i, m, rfl, hm, rfl⟩ := mapOf_inv hat
    have hi := HS.out.id i m hm
    have hb1 := below_grown HBR.out hg1 (Nat.le_refl _)
    have HB1 := Lib.hid hb1
    have HI1 := Lib.hid hit1
    have HLT := Lib.hid hlt
    obtain ⟨C, d, h1, h2, h3⟩ := (VV.out.below hb1).me i m hi hm
    have HC := Lib.hid (fun bb hbb => holds_c h2 h3 (by have := HS.out.len hm; omega) y bb hbb)
    have HM := Lib.hid hm
    unfold ptrV at hen
    clear hlx hat hg1 hs1 h1 h2 h3 hm hb1 hit1 hlt
    by_cases hy : y ∈ m.held
    · have HCT := Lib.hid (HC.out true (decide_eq_true hy).symm)
      obtain rfl : o = some i := (HO.out i).1 ⟨m, HM.out, hy⟩
      clear hy HC
      go_wp2_with fail
      refine HCT.out.mono ?_
      rintro e w2 ⟨rfl, rfl⟩
      go_wp2_with fail
      go_ret2
      exact ⟨rfl, HB1.out⟩
    · have HCF := Lib.hid (HC.out false (decide_eq_false hy).symm)
      have HNE := Lib.hid (show ∀ j : Nat, o = some j → j ≠ i from fun j hj e => by
        subst e
        obtain ⟨m', hm', hy'⟩ := (HO.out j).2 hj
        rw [HM.out] at hm'; injection hm' with hm'; subst hm'
        exact hy hy')
      clear hy HC
      go_wp2_with fail
      refine HCF.out.mono ?_
      rintro e w2 ⟨rfl, rfl⟩
      go_wp2_with fail
      go_roundw
      case rel => exact ⟨_, cnt1, HI1.out, HB1.out, fun j hj => by
        have h1 := HLE.out j hj
        have h2 := HNE.out j hj
        simp [h1]; omega⟩
      case measure => rw [HI1.out.left_eq, HIT.out.left_eq]; exact HLT.out
/-! ### With a member and a lock -/
theorem with_bad (V : KV w k A c b N ptr s) (hs : s.ok) (i : Nat) (x : Int) (hx : x < 0 ∨ (s.ceils.length : Int) ≤ x) (f : Value) :
    Calls Try.prog 20 #[.pointer (some ⟨k, 0, none⟩), .int .i64 (i : Int), .int .i64 x, f] w fun e w' => e = .returned (.int .i64 1) ∧ w = w' := by
  have c0 := V.c0
  have h16 := hs.l2
  clear V hs
  generalize s.ceils.length = n at *
  by_cases h0 : x < 0
  · have t : decide (x < 0) = true := decide_eq_true h0
    clear hx h0
    go_enter Try.func20, Try.ntmps20
    go_wp2_with fail
    go_ret
    exact ⟨rfl, rfl⟩
  · have t : decide (x < 0) = false := decide_eq_false h0
    have t2 : decide ((n : Int) ≤ x) = true := decide_eq_true (by omega)
    clear hx h0
    go_enter Try.func20, Try.ntmps20
    go_wp2_with fail
    go_ret
    exact ⟨rfl, rfl⟩
theorem with_none (V : KV w k A c b N ptr s) (hs : s.ok) {i : Nat} (hi : i < 64) (hm : s.mem i = none) {y : Nat} (hy : y < s.ceils.length) (f : Value) :
    Calls Try.prog 20 #[.pointer (some ⟨k, 0, none⟩), .int .i64 (i : Int), .int .i64 (y : Int), f] w fun e w' => e = .returned (.int .i64 6) ∧ w = w' := by
  have c0 := V.c0
  have c1 := V.c1
  have h16 := hs.l2
  have LK := V.look_none hi hm
  clear V hs hm
  generalize s.ceils.length = n at *
  have t : decide ((y : Int) < 0) = false := decide_eq_false (by omega)
  have t2 : decide ((n : Int) ≤ (y : Int)) = false := decide_eq_false (by omega)
  have t2' : decide (n ≤ y) = false := decide_eq_false (by omega)
  clear hy
  go_enter Try.func20, Try.ntmps20
  go_wp2_with fail
  go_ret
  exact ⟨rfl, rfl⟩
theorem with_some (V : KV w k A c b N ptr s) (hs : s.ok) {i : Nat} {m : Mb} (hm : s.mem i = some m) {y : Nat} (hy : y < s.ceils.length) {kf : Nat} {caps : Array Value} {Q : Int → World → Prop} (hk : ∀ (xs : Array Value) (W : World), (callFunc kf xs).run Try.prog W = .ok (.enter kf xs) W)
    (HC : Calls Try.prog kf (#[.pointer (some ⟨ptr i, 0, none⟩)] ++ caps) w fun e w' => ∃ f, e = .returned (.int .i64 f) ∧ Q f w') :
    Calls Try.prog 20 #[.pointer (some ⟨k, 0, none⟩), .int .i64 (i : Int), .int .i64 (y : Int), .func (Fn.func kf) #[] caps] w fun e w' => ∃ f, e = .returned (.int .i64 f) ∧ Q f w' := by
  have c0 := V.c0
  have c1 := V.c1
  have h16 := hs.l2
  have LK := V.look_some (hs.id i m hm) hm
  have H := Lib.hid HC
  clear V hs hm HC
  generalize s.ceils.length = n at *
  generalize ptr i = g at *
  have t : decide ((y : Int) < 0) = false := decide_eq_false (by omega)
  have t2 : decide ((n : Int) ≤ (y : Int)) = false := decide_eq_false (by omega)
  have t2' : decide (n ≤ y) = false := decide_eq_false (by omega)
  clear hy
  go_enter Try.func20, Try.ntmps20
  go_wp2_with fail
  refine H.out.mono ?_
  rintro e w' ⟨f, rfl, hq⟩
  go_wp2_with fail
  go_ret
  exact ⟨f, rfl, hq⟩
theorem enter_take (xs : Array Value) (W : World) : (callFunc 21 xs).run Try.prog W = .ok (.enter 21 xs) W := by
  go_simp
theorem enter_back (xs : Array Value) (W : World) : (callFunc 23 xs).run Try.prog W = .ok (.enter 23 xs) W := by
  go_simp
end
end Go.Proofs.Ytpfodchdpafofaa
