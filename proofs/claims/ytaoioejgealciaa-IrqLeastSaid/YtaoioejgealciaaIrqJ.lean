/- Layer 13: a controller of one line. -/
import Derived.Test.YtaoioejgealciaaIrqI
namespace Go.Proofs.Ytaoioejgealciaa
open Go.RowKit
set_option linter.unusedVariables false
set_option maxRecDepth 100000
set_option maxHeartbeats 2000000
def One (c : Nat) (now : Int) (l : Ln) (gb bb : Nat → Nat) (X : List Res) : List Res := IL c 1 1 now (fun _ => l) gb bb X
theorem rdm_box (w : World) (e : TypeId) (x0 x1 x2 x3 x4 x5 : Value) : RdM (w.alloc (.cells #[x0, x1, x2, x3, x4, x5] e)) (some ⟨w.heap.size, 0, none⟩) 1 6 (fun _ i => #[x0, x1, x2, x3, x4, x5].getD i x0) := fun _ =>
  ⟨_, _, rfl, by simp, fun j hj i hi => by
    obtain rfl : j = 0 := by omega
    have h := (Blk.new w e #[x0, x1, x2, x3, x4, x5]).cell i
    rw [Nat.zero_mul, Nat.zero_add, Nat.zero_add, h]
    show _ = some (#[x0, x1, x2, x3, x4, x5].getD i x0)
    rw [Array.getD_eq_getD_getElem?]
    have hs : i < (#[x0, x1, x2, x3, x4, x5] : Array Value).size := hi
    rw [Array.getElem?_eq_getElem hs]; rfl⟩
section
variable {w0 w w1 w' : World} {S0 S : Nat → Prop} {L X N : List Res} {c n m i k : Nat} {now t R : Int} {ls : Nat → Ln} {gb bb : Nat → Nat} {l : Ln}
theorem cv_one : cv n 1 now ls gb bb = cv n 1 now (fun _ => ls 0) gb bb := by
  funext k; unfold cv
  by_cases h1 : k = 208
  · rw [if_pos h1, if_pos h1]
  by_cases h2 : k = 209
  · rw [if_neg h1, if_neg h1, if_pos h2, if_pos h2]
  rw [if_neg h1, if_neg h1, if_neg h2, if_neg h2]
  by_cases h : k / 13 < 1
  · rw [if_pos h, if_pos h, show k / 13 = 0 by omega]
  · rw [if_neg h, if_neg h]
theorem il_one : IL c n 1 now ls gb bb X = IL c n 1 now (fun _ => ls 0) gb bb X := by
  unfold IL; rw [cv_one]; rfl
theorem one_of (h : St w0 S0 w (IL c 1 1 now ls gb bb X)) : St w0 S0 w (One c now (ls 0) gb bb X) := by
  unfold One; rw [← il_one]; exact h
theorem New1_o (Hs : St w0 S0 w X) (A : Option Addr) (cap : Nat) (V : Nat → Nat → Value) (rd : RdM w A 1 6 V) {C H D E Sm Sp : Int}
    (hV : V 0 0 = .int .i64 C ∧ V 0 1 = .int .u64 H ∧ V 0 2 = .int .i64 D ∧ V 0 3 = .int .u64 E ∧ V 0 4 = .int .i64 Sm ∧ V 0 5 = .int .u64 Sp) (hmay : mayL C H D E Sm Sp) :
    Calls Try.prog 10 #[.slice A 1 cap] w fun e w' => ∃ c gb bb, e = .returned (.tuple #[.pointer (some ⟨c, 0, none⟩), .int .i64 0]) ∧ St w0 S0 w' (One c 0 (Ln.new C H D E Sm Sp) gb bb X) := by
  let cf : Nat → Nat → Int := fun _ q => match q with | 0 => C | 1 => H | 2 => D | 3 => E | 4 => Sm | _ => Sp
  have h := New_c (n := 1) A cap V rd cf (fun k hk => by rw [show k = 0 by omega]; exact hV) (fun k hk => hmay) (Nat.le_refl _) (by omega)
  refine h.mono ?_
  rintro e w' ⟨c, gb, bb, he, s⟩
  refine ⟨c, gb, bb, he, ?_⟩
  have j := (Hs.join s).comm
  rw [il_app] at j
  exact one_of j
theorem Raise1_o (H : St w0 S0 w (One c now l gb bb X)) (hk : l.ok now R) (h0 : 0 ≤ now) (ht : now ≤ t) (hl : t < 4611686018427387904) (hR : R + 1 ≤ 1000000000000) :
    Calls Try.prog 11 #[.pointer (some ⟨c, 0, none⟩), .int .u64 t, .int .i64 0] w fun e w' => e = .returned (.tuple #[.bool ((l.goOn t).raise t).2, .int .i64 0]) ∧ ∃ gb', St w0 S0 w' (One c t ((l.goOn t).raise t).1 gb' bb X) :=
  (Raise_o (R := fun _ => R) H (by omega) (show 0 < 1 by omega) (fun j hj => hk) h0 ht hl hR).mono fun e w' ⟨he, g, hs⟩ => ⟨he, g, one_of hs⟩
theorem Mask1_o (on : Bool) (H : St w0 S0 w (One c now l gb bb X)) (hk : l.ok now R) (h0 : 0 ≤ now) (ht : now ≤ t) (hl : t < 4611686018427387904) :
    Calls Try.prog 16 #[.pointer (some ⟨c, 0, none⟩), .int .u64 t, .int .i64 0, .bool on] w fun e w' => e = .returned (.int .i64 0) ∧ St w0 S0 w' (One c t ((l.goOn t).mask t on) gb bb X) :=
  (Mask_o (R := fun _ => R) on H (by omega) (show 0 < 1 by omega) (fun j hj => hk) h0 ht hl).mono fun e w' ⟨he, hs⟩ => ⟨he, one_of hs⟩
theorem Go1_o (H : St w0 S0 w (One c now l gb bb X)) (hk : l.ok now R) (h0 : 0 ≤ now) (ht : now ≤ t) (hl : t < 4611686018427387904) :
    Calls Try.prog 12 #[.pointer (some ⟨c, 0, none⟩), .int .u64 t] w fun e w' => e = .returned (.int .i64 0) ∧ St w0 S0 w' (One c t (l.goOn t) gb bb X) :=
  (Go_o (R := fun _ => R) H (by omega) (by omega) (fun j hj => hk) h0 ht hl).mono fun e w' ⟨he, hs⟩ => ⟨he, one_of hs⟩
/-- What an acknowledgment answers of one line. -/
def Ack1P (w0 : World) (S0 : Nat → Prop) (c : Nat) (now t : Int) (l : Ln) (gb bb : Nat → Nat) (X : List Res) (a f : Int) (w' : World) : Prop :=
  ∃ l1, (l1 = l ∨ l1 = l.fresh now) ∧
      ((f = 0 ∧ l.masked = false ∧ 0 < a ∧ a = (l1.goOn t).pends ∧ St w0 S0 w' (One c t ((l1.goOn t).ack t) gb bb X)) ∨
       (f = 12 ∧ a = 0 ∧ (l.masked = true ∨ l.pends = 0) ∧ St w0 S0 w' (One c now l1 gb bb X)))
theorem Ack1_o (H : St w0 S0 w (One c now l gb bb X)) (hk : l.ok now R) (h0 : 0 ≤ now) (ht : now ≤ t) (hl : t < 4611686018427387904) (hb : now < 1152921504606846976) :
    Calls Try.prog 13 #[.pointer (some ⟨c, 0, none⟩), .int .u64 t, .int .i64 0] w fun e w' => ∃ a f, e = .returned (.tuple #[.int .i64 a, .int .i64 f]) ∧ Ack1P w0 S0 c now t l gb bb X a f w' :=
  (Ack_o (R := fun _ => R) H (by omega) (show 0 < 1 by omega) (fun j hj => hk) h0 ht hl hb).mono fun e w' ⟨a, f, he, l1, hl1, hs⟩ => ⟨a, f, he, l1, hl1, hs.elim (fun ⟨h1, h2, h3, h4, h5⟩ => Or.inl ⟨h1, h2, h3, h4, one_of h5⟩) fun ⟨h1, h2, h3, h4⟩ => Or.inr ⟨h1, h2, h3, one_of h4⟩⟩
theorem State1_o (H : St w0 S0 w (One c now l gb bb X)) :
    Calls Try.prog 14 #[.pointer (some ⟨c, 0, none⟩), .int .i64 0] w fun e w' => e = .returned (.tuple #[.int .i64 l.held, .int .i64 l.pends, .bool l.masked]) ∧ St w0 S0 w' (One c now l gb bb X) :=
  State_o H (by omega) (show 0 < 1 by omega)
def Pend1P (l : Ln) (a p : Int) (ok : Bool) : Prop := (a = 0 ∧ p = l.pends ∧ ok = true ∧ l.masked = false ∧ 0 < l.pends) ∨ (a = 0 ∧ p = 0 ∧ ok = false ∧ ¬ (l.masked = false ∧ 0 < l.pends))
theorem Pending1_o (H : St w0 S0 w (One c now l gb bb X)) :
    Calls Try.prog 18 #[.pointer (some ⟨c, 0, none⟩)] w fun e w' => ∃ a p ok, e = .returned (.tuple #[.int .i64 a, .int .i64 p, .bool ok]) ∧ Pend1P l a p ok ∧ St w0 S0 w' (One c now l gb bb X) :=
  (Pending_o H (by omega)).mono fun e w' ⟨a, p, ok, he, hp, hs⟩ => ⟨a, p, ok, he, hp.elim (fun ⟨k, h1, h2, h3, h4, h5, h6, _⟩ => Or.inl ⟨by omega, h3, h4, h5, h6⟩) fun ⟨h1, h2, h3, h4⟩ => Or.inr ⟨h1, h2, h3, h4 0 (by omega)⟩, hs⟩
theorem Go1_late (H : St w0 S0 w (One c now l gb bb X)) (ht : t < now) (hl : t < 4611686018427387904) :
    Calls Try.prog 12 #[.pointer (some ⟨c, 0, none⟩), .int .u64 t] w fun e w' => e = .returned (.int .i64 1) ∧ w' = w :=
  Go_late H (by omega) (by omega) ht hl
end
/-! ### The awake one -/
def q0 : Ln := Ln.new 2 10 5 10 3 100
def q1 : Ln := ((q0.goOn 1).raise 1).1
def q2 : Ln := ((q1.goOn 2).raise 2).1
def q3 (x : Ln) : Ln := (x.goOn 3).ack 3
def q4 (x : Ln) : Ln := (((q3 x).goOn 4).raise 4).1
def q5 (x : Ln) : Ln := (((q4 x).goOn 5).raise 5).1
theorem q_facts : q0.ok 0 0 ∧ q1.ok 1 1 ∧ q2.ok 2 2 ∧ q1.pends = 0 ∧ q2.masked = false ∧ q2.pends = 2 ∧ (∀ x, (x = q2 ∨ x = q2.fresh 2) → (x.goOn 3).pends = 2 ∧ (q3 x).ok 3 2 ∧ (((q3 x).goOn 4).raise 4).2 = false ∧ (q4 x).ok 4 3 ∧ (((q4 x).goOn 5).raise 5).2 = true ∧ (q5 x).masked = true) := by
  have k0 : q0.ok 0 0 := Ln.new_ok (by unfold mayL; omega)
  have k1 : q1.ok 1 1 := Ln.raise_ok (R := 0) (Ln.goOn_ok k0 (by omega) (by omega) (by omega)) (by omega) (by omega) (by omega)
  have k2 : q2.ok 2 2 := Ln.raise_ok (R := 1) (Ln.goOn_ok k1 (by omega) (by omega) (by omega)) (by omega) (by omega) (by omega)
  have g : ∀ x, x.ok 2 2 → (q3 x).ok 3 2 ∧ (q4 x).ok 4 3 := fun x h => by
    have h3 : (q3 x).ok 3 2 := Ln.ack_ok (Ln.goOn_ok h (by omega) (by omega) (by omega)) (by omega)
    exact ⟨h3, Ln.raise_ok (R := 2) (Ln.goOn_ok h3 (by omega) (by omega) (by omega)) (by omega) (by omega) (by omega)⟩
  refine ⟨k0, k1, k2, by decide, by decide, by decide, ?_⟩
  rintro x (rfl | rfl)
  · exact ⟨by decide, (g _ k2).1, by decide, (g _ k2).2, by decide, by decide⟩
  · have k2' := Ln.fresh_ok k2 (show (0 : Int) ≤ 2 by omega)
    exact ⟨by decide, (g _ k2').1, by decide, (g _ k2').2, by decide, by decide⟩
theorem awake_c (w : World) : Calls Try.prog 8 #[] w fun e w' => e = .returned (.bool true) ∧ Below w.heap.size w w' := by
  obtain ⟨k0, k1, k2, p1, m2, p2, kx⟩ := q_facts
  have K0 := Lib.hid k0
  have K1 := Lib.hid k1
  have K2 := Lib.hid k2
  have P1 := Lib.hid p1
  have M2 := Lib.hid m2
  have P2 := Lib.hid p2
  have KX := Lib.hid kx
  clear k0 k1 k2 p1 m2 p2 kx
  go_enter Try.func8, Try.ntmps8
  go_wp2_with fail
  have s0 := (St.begin w).alloc (.cells #[.int .i64 2, .int .u64 10, .int .i64 5, .int .u64 10, .int .i64 3, .int .u64 100] 24)
  refine (New1_o s0 _ 1 _ (rdm_box w 24 _ _ _ _ _ _) (C := 2) (H := 10) (D := 5) (E := 10) (Sm := 3) (Sp := 100) ⟨rfl, rfl, rfl, rfl, rfl, rfl⟩ (by unfold mayL; omega)).mono ?_
  rintro e w1 ⟨c, gb, bb, rfl, s1⟩
  have C1 := Lib.hid (Raise1_o (R := 0) (l := q0) (t := 1) s1 K0.out (by omega) (by omega) (by omega) (by omega))
  clear s0 s1
  go_wp2_with fail
  refine C1.out.mono ?_
  rintro e w2 ⟨rfl, g2, s2⟩
  have C2 := Lib.hid (Pending1_o (l := q1) s2)
  clear s2 C1
  go_wp2_with fail
  refine C2.out.mono ?_
  rintro e w3 ⟨a, p, ok, rfl, hp, s3⟩
  obtain ⟨rfl, rfl, rfl⟩ : a = 0 ∧ p = 0 ∧ ok = false := by
    rcases hp with ⟨_, _, _, _, h⟩ | ⟨h1, h2, h3, _⟩
    · have := P1.out; omega
    · exact ⟨h1, h2, h3⟩
  have C3 := Lib.hid (Raise1_o (R := 1) (l := q1) (t := 2) s3 K1.out (by omega) (by omega) (by omega) (by omega))
  clear s3 C2 hp
  go_wp2_with fail
  refine C3.out.mono ?_
  rintro e w4 ⟨rfl, g4, s4⟩
  have C4 := Lib.hid (Pending1_o (l := q2) s4)
  clear s4 C3
  go_wp2_with fail
  refine C4.out.mono ?_
  rintro e w5 ⟨a, p, ok, rfl, hp, s5⟩
  obtain ⟨rfl, rfl, rfl⟩ : a = 0 ∧ p = 2 ∧ ok = true := by
    rcases hp with ⟨h1, h2, h3, _, _⟩ | ⟨_, _, _, h⟩
    · exact ⟨h1, h2.trans P2.out, h3⟩
    · exact absurd ⟨M2.out, by have := P2.out; omega⟩ h
  have C5 := Lib.hid (Ack1_o (R := 2) (l := q2) (t := 3) s5 K2.out (by omega) (by omega) (by omega) (by omega))
  clear s5 C4 hp
  go_wp2_with fail
  refine C5.out.mono ?_
  rintro e w6 ⟨a, f, rfl, x, hx, hf⟩
  obtain ⟨x1, x2, x3, x4, x5, x6⟩ := KX.out x hx
  obtain ⟨rfl, rfl, s6⟩ : f = 0 ∧ a = 2 ∧ St w None w6 (One c 3 (q3 x) g4 bb []) := by
    rcases hf with ⟨h1, _, _, h4, h5⟩ | ⟨_, _, h, _⟩
    · exact ⟨h1, h4.trans x1, h5⟩
    · rcases h with h | h
      · rw [M2.out] at h; cases h
      · have := P2.out; omega
  have C6 := Lib.hid (Raise1_o (R := 2) (l := q3 x) (t := 4) s6 x2 (by omega) (by omega) (by omega) (by omega))
  rw [x3] at C6
  have X4 := Lib.hid x4
  have X5 := Lib.hid x5
  have X6 := Lib.hid x6
  clear s6 C5 hx hf x1 x2 x3 x4 x5 x6
  go_wp2_with fail
  refine C6.out.mono ?_
  rintro e w7 ⟨rfl, g7, s7⟩
  have C7 := Lib.hid (Raise1_o (R := 3) (l := q4 x) (t := 5) s7 X4.out (by omega) (by omega) (by omega) (by omega))
  rw [X5.out] at C7
  clear s7 C6
  go_wp2_with fail
  refine C7.out.mono ?_
  rintro e w8 ⟨rfl, g8, s8⟩
  have C8 := Lib.hid (State1_o (l := q5 x) s8)
  rw [X6.out] at C8
  clear s8 C7
  go_wp2_with fail
  refine C8.out.mono ?_
  rintro e w9 ⟨rfl, s9⟩
  have C9 := Lib.hid (Go1_late (l := q5 x) (t := 1) s9 (by omega) (by omega))
  have S9 := Lib.hid s9.below
  clear s9 C8
  go_wp2_with (go_at_call 12; refine C9.out.mono ?_; rintro e w' ⟨rfl, rfl⟩)
  go_ret
  exact ⟨rfl, S9.out⟩
end Go.Proofs.Ytaoioejgealciaa
