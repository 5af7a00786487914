/- Layer 6: slots of buses that are written out; answers that the document fixes. -/
import Derived.Test.YtabocojmobbpaaaBusI
import Derived.Test.YtabocojmobbpaaaLis
namespace Go.Proofs.Ytabocojmobbpaaa
open Go.RowKit
set_option linter.unusedVariables false
set_option maxRecDepth 100000
set_option maxHeartbeats 400000
/-- A row just made is read. -/
theorem rd_new (w : World) (t : TypeId) (cs : Array Value) (n : Nat) (f : Nat → Value) (h : ∀ j, j < n → cs[j]? = some (f j)) : Rd (w.alloc (.cells cs t)) (some ⟨w.heap.size, 0, none⟩) n f := fun _ =>
  ⟨w.heap.size, 0, rfl, by simp, fun j hj => by rw [Nat.zero_add, (Blk.new w t cs).cell]; exact h j hj⟩
theorem rdm_new (w : World) (t : TypeId) (cs : Array Value) (n m : Nat) (V : Nat → Nat → Value) (h : ∀ j, j < n → ∀ i, i < m → cs[j * m + i]? = some (V j i)) : RdM (w.alloc (.cells cs t)) (some ⟨w.heap.size, 0, none⟩) n m V := fun _ =>
  ⟨w.heap.size, 0, rfl, by simp, fun j hj i hi => by rw [Nat.zero_add, (Blk.new w t cs).cell]; exact h j hj i hi⟩
theorem lis_rd {w : World} {e : TypeId} {A : Option Addr} {n cap : Nat} {xs : List Value} {f : Nat → Value} (h : Lis w e 1 (.slice A n cap) n xs) (hf : ∀ j, j < n → xs[j]? = some (f j)) : Rd w A n f := by
  intro hn
  obtain ⟨hl, h1 | ⟨g, off, rfl, hc⟩⟩ := h.reads
  · omega
  · refine ⟨g, off, rfl, ?_, fun j hj => hc j _ (hf j hj)⟩
    have := block_lt (hc 0 _ (hf 0 hn))
    simpa using this
/-- A slot, reckoned. -/
def slotF (C : BC) (s : BS) (now : Int) (ok : Bool) (want : Nat → Bool) : Int × Int × BS :=
  if now < 4611686018427387904 then
    if ok = true ∧ s.next ≤ now then
      if best C s now want = -1 then (0, 5, ⟨s.ws, stl s.st want (-1), now + 1, -1, 0⟩)
      else (best C s now want, 0, ⟨upd s.ws (best C s now want).toNat (s.ws (best C s now want).toNat ++ [(C.K (best C s now want).toNat now, 1)]), stl s.st want (best C s now want), now + 1, best C s now want, (if s.who1 now = best C s now want then s.row1 now else 0) + 1⟩)
    else (0, 1, s)
  else (0, 2, s)
theorem slotF_R (C : BC) (s : BS) (now : Int) (ok : Bool) (want : Nat → Bool) : SlotR C s now ok want (slotF C s now ok want).1 (slotF C s now ok want).2.1 (slotF C s now ok want).2.2 := by
  unfold slotF
  split
  · rename_i h1
    split
    · rename_i h2
      have hb := fst_bd (fun i => want i && mayB C s.ws (s.who1 now) (s.row1 now) now i) C.prio C.n
      split
      · rename_i h3; exact Or.inr (Or.inr (Or.inl ⟨h1, h2.1, h2.2, h3, rfl, rfl, rfl⟩))
      · rename_i h3
        obtain ⟨b, hbb⟩ : ∃ b : Nat, best C s now want = b := ⟨(best C s now want).toNat, by unfold best at *; omega⟩
        rw [hbb]
        exact Or.inr (Or.inr (Or.inr ⟨h1, h2.1, h2.2, b, by unfold best at hbb; omega, hbb, rfl, rfl, rfl⟩))
    · rename_i h2; exact Or.inr (Or.inl ⟨h1, h2, rfl, rfl, rfl⟩)
  · rename_i h1; exact Or.inl ⟨h1, rfl, rfl, rfl⟩
theorem slotF_as {C : BC} {s : BS} {now : Int} {ok : Bool} {want : Nat → Bool} {v f : Int} (h1 : (slotF C s now ok want).1 = v) (h2 : (slotF C s now ok want).2.1 = f) : SlotR C s now ok want v f (slotF C s now ok want).2.2 := by
  subst h1; subst h2; exact slotF_R C s now ok want
/-! ### Two alike masters -/
def ac : BC := ⟨2, fun _ => 3, fun _ => 1, fun _ => 5, fun _ => 10, 0⟩
theorem ac_ok : ac.OK := ⟨by decide, by decide, fun _ _ => by show (0 : Int) ≤ 3 ∧ (3 : Int) ≤ 100; omega, fun _ _ => by show (0 : Int) ≤ 1 ∧ (1 : Int) ≤ 1000; omega, fun _ _ => by show (1 : Int) ≤ 5 ∧ (5 : Int) ≤ 10 ∧ (10 : Int) ≤ 1099511627776; omega, by decide⟩
def f01 (j : Nat) : Int := if j = 0 then 0 else 1
def a1 : BS := (slotF ac (bs0 0) 0 (okB 2 f01 2) (wantB 2 f01)).2.2
def a2 : BS := (slotF ac a1 1 (okB 2 f01 2) (wantB 2 f01)).2.2
def a3 : BS := (slotF ac a2 2 (okB 2 f01 2) (wantB 2 f01)).2.2
def a4 : BS := (slotF ac a3 2 (okB 1 f01 2) (wantB 1 f01)).2.2
def a5 : BS := (slotF ac a4 3 (okB 0 f01 2) (wantB 0 f01)).2.2
theorem r1 : SlotR ac (bs0 0) 0 (okB 2 f01 ac.n) (wantB 2 f01) 0 0 a1 := slotF_as (by decide) (by decide)
theorem r2 : SlotR ac a1 1 (okB 2 f01 ac.n) (wantB 2 f01) 1 0 a2 := slotF_as (by decide) (by decide)
theorem r3 : SlotR ac a2 2 (okB 2 f01 ac.n) (wantB 2 f01) 0 0 a3 := slotF_as (by decide) (by decide)
theorem r4 : SlotR ac a3 2 (okB 1 f01 ac.n) (wantB 1 f01) 0 1 a4 := slotF_as (by decide) (by decide)
theorem r5 : SlotR ac a4 3 (okB 0 f01 ac.n) (wantB 0 f01) 0 5 a5 := slotF_as (by decide) (by decide)
theorem a5_st : a5.st 1 = 2 := by decide
def V2 (p u B P : Int) (j i : Nat) : Value := if i = 0 then .int .i64 p else if i = 1 then .int .i64 u else if i = 2 then .int .u64 B else .int .u64 P
theorem v2_mv (p u B P ph : Int) : MV ⟨2, fun _ => p, fun _ => u, fun _ => B, fun _ => P, ph⟩ (V2 p u B P) := ⟨fun j _ => rfl, fun j _ => rfl, fun j _ => rfl, fun j _ => rfl⟩
theorem v2_rd (w : World) (t : TypeId) (p u B P : Int) : RdM (w.alloc (.cells #[.int .i64 p, .int .i64 u, .int .u64 B, .int .u64 P, .int .i64 p, .int .i64 u, .int .u64 B, .int .u64 P] t)) (some ⟨w.heap.size, 0, none⟩) 2 4 (V2 p u B P) :=
  rdm_new w t _ 2 4 _ (fun j hj i hi => by
    match j, hj, i, hi with
    | 0, _, 0, _ | 0, _, 1, _ | 0, _, 2, _ | 0, _, 3, _ | 1, _, 0, _ | 1, _, 1, _ | 1, _, 2, _ | 1, _, 3, _ => rfl
    | j + 2, h, _, _ => omega
    | 0, _, i + 4, h => omega
    | 1, _, i + 4, h => omega)
theorem rd01 (w : World) (t : TypeId) : Rd (w.alloc (.cells #[.int .i64 0, .int .i64 1] t)) (some ⟨w.heap.size, 0, none⟩) 2 (fun j => .int .i64 (f01 j)) :=
  rd_new w t _ 2 _ (fun j hj => by
    match j, hj with
    | 0, _ | 1, _ => rfl
    | j + 2, h => omega)
theorem rd0 (w : World) (t : TypeId) : Rd (w.alloc (.cells #[.int .i64 0] t)) (some ⟨w.heap.size, 0, none⟩) 1 (fun j => .int .i64 (f01 j)) :=
  rd_new w t _ 1 _ (fun j hj => by
    match j, hj with
    | 0, _ => rfl
    | j + 1, h => omega)
/-- What happens, with names of its own. -/
theorem chain : ∃ (C : BC) (x1 x2 x3 x4 x5 : BS), C.OK ∧ C.n = 2 ∧ C.ph = 0 ∧ MV C (V2 3 1 5 10) ∧ SlotR C (bs0 0) 0 (okB 2 f01 C.n) (wantB 2 f01) 0 0 x1 ∧ SlotR C x1 1 (okB 2 f01 C.n) (wantB 2 f01) 1 0 x2 ∧
    SlotR C x2 2 (okB 2 f01 C.n) (wantB 2 f01) 0 0 x3 ∧ SlotR C x3 2 (okB 1 f01 C.n) (wantB 1 f01) 0 1 x4 ∧ SlotR C x4 3 (okB 0 f01 C.n) (wantB 0 f01) 0 5 x5 ∧ x5.st 1 = 2 :=
  ⟨ac, a1, a2, a3, a4, a5, ac_ok, rfl, rfl, v2_mv 3 1 5 10 0, r1, r2, r3, r4, r5, a5_st⟩
theorem bnew2 {w0 w : World} {S0 : Nat → Prop} {L : List Res} {A : Option Addr} {cap n : Nat} {ph : Int} {C : BC} {V : Nat → Nat → Value} (hC : C.OK) (hn : C.n = n) (hph : C.ph = ph) (hV : MV C V) (H : St w0 S0 w L) (rd : RdM w A n 4 V) :
    Calls Try.prog 10 #[.slice A n cap, .int .u64 ph] w fun e w' => ∃ b g mp, e = .returned (.tuple #[.pointer (some ⟨b, 0, none⟩), .int .i64 0]) ∧ St w0 S0 w' (L ++ [BusP C b g mp (bs0 ph)]) := by
  subst hn; subst hph; exact bnew_ok H hC rd hV
theorem bawake (w : World) : Calls Try.prog 9 #[] w fun e w' => e = .returned (.bool true) ∧ Below w.heap.size w w' := by
  obtain ⟨C, x1, x2, x3, x4, x5, hC, hn, hph, hV, r1, r2, r3, r4, r5, hst⟩ := chain
  have h0 : (bs0 0).OK C 0 := by have := bs0_ok hC; rwa [hph] at this
  have O1 := Lib.hid (r1.next h0)
  have O2 := Lib.hid (r2.next O1.out)
  have O3 := Lib.hid (r3.next O2.out)
  have O4 := Lib.hid (r4.next O3.out)
  have H0 := Lib.hid h0
  have HM := Lib.hid (show (2 : Nat) ≤ maxLen by unfold maxLen; omega)
  have A5 := Lib.hid hst
  have HN := Lib.hid hn
  have HP := Lib.hid hph
  have R1 := Lib.hid r1
  have R2 := Lib.hid r2
  have R3 := Lib.hid r3
  have R4 := Lib.hid r4
  have R5 := Lib.hid r5
  clear h0 hst hn hph r1 r2 r3 r4 r5
  have s1 : St w None _ [_] := (St.begin w).box 34 #[.int .i64 3, .int .i64 1, .int .u64 5, .int .u64 10]
  obtain ⟨q0, q1, q2, q3⟩ := (s1.blk 0 rfl).four
  have RD := v2_rd (w.alloc (.cells #[.int .i64 3, .int .i64 1, .int .u64 5, .int .u64 10] 34)) 34 3 1 5 10
  rw [show (w.alloc (.cells #[.int .i64 3, .int .i64 1, .int .u64 5, .int .u64 10] 34)).heap.size = w.heap.size + 1 by simp] at RD
  go_enter Try.func9, Try.ntmps9
  go_wp2_with fail
  refine (bnew2 hC HN.out HP.out hV (((St.begin w).alloc (.cells #[.int .i64 3, .int .i64 1, .int .u64 5, .int .u64 10] 34)).alloc _) RD).mono ?_
  rintro e w1 ⟨b, g, mp, rfl, s2⟩
  clear s1 q0 q1 q2 q3
  trace "1"
  go_wp2_with fail
  refine (Slot_o (s2.alloc _) 0 rfl hC H0.out (by omega) (by omega) HM.out (rd01 _ _) R1.out).mono ?_
  rintro e w2 ⟨rfl, s3⟩
  trace "2"
  go_wp2_with fail
  refine (Slot_o (s3.alloc _) 0 rfl hC O1.out (by omega) (by omega) HM.out (rd01 _ _) R2.out).mono ?_
  rintro e w3 ⟨rfl, s4⟩
  trace "3"
  go_wp2_with fail
  refine (Slot_o (s4.alloc _) 0 rfl hC O2.out (by omega) (by omega) HM.out (rd01 _ _) R3.out).mono ?_
  rintro e w4 ⟨rfl, s5⟩
  go_wp2_with fail
  refine (Slot_o (s5.alloc _) 0 rfl hC O3.out (by omega) (by omega) (by unfold maxLen; omega) (rd0 _ _) R4.out).mono ?_
  rintro e w5 ⟨rfl, s6⟩
  go_wp2_with fail
  refine (Slot_o s6 0 rfl hC O4.out (by omega) (by omega) (by unfold maxLen; omega) (fun h => absurd h (by omega)) R5.out).mono ?_
  rintro e w6 ⟨rfl, s7⟩
  go_wp2_with fail
  refine (stalls_yes s7 0 rfl hC 1 (by rw [HN.out]; omega)).mono ?_
  rintro e w7 ⟨rfl, s8⟩
  rw [A5.out]
  go_wp2_with fail
  go_ret
  exact ⟨rfl, s8.below⟩
end Go.Proofs.Ytabocojmobbpaaa
