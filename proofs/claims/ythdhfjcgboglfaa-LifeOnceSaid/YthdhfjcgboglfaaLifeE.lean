/- Layer 19: a book as one thing: comesOut, Answer, Cancel, Count, Has. -/
import Derived.Test.YthdhfjcgboglfaaLifeD
namespace Go.Proofs.Ythdhfjcgboglfaa
open Go.RowKit
set_option linter.unusedVariables false
set_option maxRecDepth 100000
set_option maxHeartbeats 2000000
theorem Bk.out_some {s : Bk} {f : Ft} {k : Nat} (h : slotO s.op f.id = some k) : s.out f = { s with op := updO s.op k none, un := s.un ++ [f] } := by unfold Bk.out; rw [h]
theorem Bk.out_none {s : Bk} {f : Ft} (h : slotO s.op f.id = none) : s.out f = s := by unfold Bk.out; rw [h]
theorem Bk.ok.out {s : Bk} (ok : s.ok) (f : Ft) : (s.out f).ok := by
  cases h : slotO s.op f.id with
  | none => rw [Bk.out_none h]; exact ok
  | some k =>
    rw [Bk.out_some h]
    refine ⟨ok.c0, ok.c1, ok.n0, ok.U.del k, fun j x hx => ?_⟩
    have hx : updO s.op k none j = some x := hx
    by_cases e : j = k
    · subst e; rw [updO_self] at hx; cases hx
    · rw [updO_ne _ _ e] at hx; exact ok.bd j x hx
/-- What comesOut answers. -/
def outA (s : Bk) (id : Int) : Int := if (slotO s.op id).isSome = true then 0 else 6
section
variable {w0 w w' : World} {S0 : Nat → Prop} {L X : List Res} {b : Nat} {s : Bk} {id : Int}
theorem bOut_o (H : St w0 S0 w L) (i : Nat) (hi : L[i]? = some (BookR b s)) (f : Ft) (hid : wfI f.id) (hun : s.un.length ≤ 100000) : Calls Try.prog 29 #[.pointer (some ⟨b, 0, none⟩), .agg f.cells] w fun e w' => e = .returned (.int .i64 (outA s f.id)) ∧ St w0 S0 w' (L.set i (BookR b (s.out f))) :=
  St.call (fun w S h => by
    obtain ⟨ok, cw, mb, A, cap, hs⟩ := h
    have H0 : St w S w (BookL b cw mb A cap s ++ []) := by rw [List.append_nil]; exact St.start hs
    unfold outA
    cases hsl : slotO s.op f.id with
    | none =>
      refine (lOut_no H0 f hid hsl).mono fun e w' ⟨he, s'⟩ => ⟨he, ?_⟩
      rw [Bk.out_none hsl]
      rw [List.append_nil] at s'
      exact s'.fin fun S' h => ⟨ok, cw, mb, A, cap, h⟩
    | some k =>
      refine (lOut_yes H0 ok f hsl hun).mono fun e w' ⟨he, A', cap', s'⟩ => ⟨he, ?_⟩
      have ok2 := ok.out f
      rw [Bk.out_some hsl] at ok2 ⊢
      rw [List.append_nil] at s'
      exact s'.fin fun S' h => ⟨ok2, cw, mb, A', cap', h⟩) (BookR.ok _ _) H i hi
theorem bCount_o (H : St w0 S0 w L) (i : Nat) (hi : L[i]? = some (BookR b s)) : Calls Try.prog 21 #[.pointer (some ⟨b, 0, none⟩)] w fun e w' => e = .returned (.int .i64 (cntO s.op)) ∧ St w0 S0 w' L := by
  obtain ⟨S, ok, cw, mb, A, cap, hs⟩ := H.get i hi
  have H0 : St w S w (BookL b cw mb A cap s ++ []) := by rw [List.append_nil]; exact St.start hs
  exact (lCount_c H0).mono fun e w' ⟨he, hw⟩ => ⟨he, by rw [hw]; exact H⟩
theorem bHas_o (H : St w0 S0 w L) (i : Nat) (hi : L[i]? = some (BookR b s)) (hid : wfI id) : Calls Try.prog 20 #[.pointer (some ⟨b, 0, none⟩), .int .i64 id] w fun e w' => e = .returned (.tuple #[.int .u64 (deadO s.op id), .bool (slotO s.op id).isSome]) ∧ St w0 S0 w' L := by
  have h := St.call (R := BookR b s) (R' := BookR b s) (fun w S h => by
    obtain ⟨ok, cw, mb, A, cap, hs⟩ := h
    have H0 : St w S w (BookL b cw mb A cap s ++ []) := by rw [List.append_nil]; exact St.start hs
    exact (lHas_c H0 hid).mono fun e w' ⟨he, s'⟩ => ⟨he, by
      rw [List.append_nil] at s'
      exact s'.fin fun S' h => ⟨ok, cw, mb, A, cap, h⟩⟩) (BookR.ok _ _) H i hi
  rwa [set_same hi] at h
theorem bCancel_o (H : St w0 S0 w L) (i : Nat) (hi : L[i]? = some (BookR b s)) (hid : wfI id) (hun : s.un.length ≤ 100000) : Calls Try.prog 15 #[.pointer (some ⟨b, 0, none⟩), .int .i64 id] w fun e w' => e = .returned (.int .i64 (outA s id)) ∧ St w0 S0 w' (L.set i (BookR b (s.out ⟨id, 2, 3⟩))) := by
  have OC := Lib.hid (bOut_o H i hi ⟨id, 2, 3⟩ hid hun)
  obtain ⟨a, ha⟩ : ∃ a, outA s id = a := ⟨_, rfl⟩
  dsimp only at OC
  rw [ha] at OC ⊢
  clear H hi ha
  go_enter Try.func15, Try.ntmps15
  go_wp2_with fail
  refine OC.out.mono ?_
  rintro e w1 ⟨rfl, s1⟩
  have S1 := Lib.hid s1
  clear s1 OC
  go_wp2_with fail
  go_ret
  exact ⟨rfl, S1.out⟩
/-- What Answer answers, and does. -/
def ansA (s : Bk) (id st : Int) : Int := if st < 0 ∨ 255 < st then 1 else outA s id
def Bk.ans (s : Bk) (id st : Int) (bad : Bool) : Bk := if st < 0 ∨ 255 < st then s else s.out (if bad then ⟨id, 2, 2⟩ else ⟨id, 1, st⟩)
theorem bAnswer_o (H : St w0 S0 w L) (i : Nat) (hi : L[i]? = some (BookR b s)) (hid : wfI id) (hun : s.un.length ≤ 100000) (st : Int) (bad : Bool) : Calls Try.prog 13 #[.pointer (some ⟨b, 0, none⟩), .int .i64 id, .int .i64 st, .bool bad] w fun e w' => e = .returned (.int .i64 (ansA s id st)) ∧ St w0 S0 w' (L.set i (BookR b (s.ans id st bad))) := by
  have HH := Lib.hid H
  by_cases h0 : st < 0
  · have e1 : ansA s id st = 1 := if_pos (Or.inl h0)
    have e2 : s.ans id st bad = s := if_pos (Or.inl h0)
    rw [e1, e2, set_same hi]
    have d0 : decide (st < 0) = true := decide_eq_true h0
    clear H hi e1 e2
    go_enter Try.func13, Try.ntmps13
    go_wp2_with fail
    go_ret
    exact ⟨rfl, HH.out⟩
  have d0 : decide (st < 0) = false := decide_eq_false h0
  by_cases h1 : 255 < st
  · have e1 : ansA s id st = 1 := if_pos (Or.inr h1)
    have e2 : s.ans id st bad = s := if_pos (Or.inr h1)
    rw [e1, e2, set_same hi]
    have d1 : decide (255 < st) = true := decide_eq_true h1
    clear H hi e1 e2
    go_enter Try.func13, Try.ntmps13
    go_wp2_with fail
    go_ret
    exact ⟨rfl, HH.out⟩
  have d1 : decide (255 < st) = false := decide_eq_false h1
  have e1 : ansA s id st = outA s id := if_neg (by omega)
  have e2 : s.ans id st bad = s.out (if bad then ⟨id, 2, 2⟩ else ⟨id, 1, st⟩) := if_neg (by omega)
  rw [e1, e2]
  obtain ⟨a, ha⟩ : ∃ a, outA s id = a := ⟨_, rfl⟩
  cases bad with
  | true =>
    have OC := Lib.hid (bOut_o H i hi ⟨id, 2, 2⟩ hid hun)
    dsimp only at OC
    rw [ha] at OC ⊢
    have e3 : s.out (if true = true then (⟨id, 2, 2⟩ : Ft) else ⟨id, 1, st⟩) = s.out ⟨id, 2, 2⟩ := by rw [if_pos rfl]
    rw [e3]
    clear H hi ha HH e1 e2 h0 h1 e3
    go_enter Try.func13, Try.ntmps13
    go_wp2_with fail
    refine OC.out.mono ?_
    rintro e w1 ⟨rfl, s1⟩
    have S1 := Lib.hid s1
    clear s1 OC
    go_wp2_with fail
    go_ret
    exact ⟨rfl, S1.out⟩
  | false =>
    have OC := Lib.hid (bOut_o H i hi ⟨id, 1, st⟩ hid hun)
    dsimp only at OC
    rw [ha] at OC ⊢
    have e3 : s.out (if false = true then (⟨id, 2, 2⟩ : Ft) else ⟨id, 1, st⟩) = s.out ⟨id, 1, st⟩ := by rw [if_neg (by decide)]
    rw [e3]
    clear H hi ha HH e1 e2 h0 h1 e3
    go_enter Try.func13, Try.ntmps13
    go_wp2_with fail
    refine OC.out.mono ?_
    rintro e w1 ⟨rfl, s1⟩
    have S1 := Lib.hid s1
    clear s1 OC
    go_wp2_with fail
    go_ret
    exact ⟨rfl, S1.out⟩
end
end Go.Proofs.Ythdhfjcgboglfaa
