/- Layer 17: a processor: Release. -/
import Derived.Test.YtdnonhhphkmlmaaCpuC
import Derived.Deep.QuietTactic
namespace Go.Proofs.Ytdnonhhphkmlmaa
open Go.RowKit
set_option linter.unusedVariables false
set_option maxRecDepth 100000
set_option maxHeartbeats 2000000
/-- What holds of a task's numbers. -/
structure CTkOK (now : Int) (t : CTk) : Prop where
  p0 : 0 ≤ t.prio
  p1 : t.prio < 101
  c0 : 0 ≤ t.cost
  e0 : 0 ≤ t.per
  d0 : 0 ≤ t.dead
  d1 : t.dead < 4611686018427387904
  r0 : 0 ≤ t.rel
  r1 : t.rel ≤ now
/-- The task, once it was released. -/
def relT (t : CTk) (now dem : Int) : CTk := { t with began := true, rel := now, there := true, dem := dem, ran := 0, unt := now + t.dead }
/-- What Release answers. -/
def relA (n : Nat) (T : Nat → CTk) (now id dem : Int) : Int :=
  if id < 0 ∨ (n : Int) ≤ id ∨ dem = 0 then 1
  else if (T id.toNat).there = true then 12
  else if (T id.toNat).began = true ∧ now - (T id.toNat).rel < (T id.toNat).per then 11
  else if 4611686018427387904 ≤ now + (T id.toNat).dead then 2 else 0
section
variable {w0 w : World} {S0 : Nat → Prop} {X : List Res} {p : Pl} {T T' : Nat → CTk} {V V' : Nat → Sv} {now id dem : Int} {s s' : QS}
theorem cpu_que (H : St w0 S0 w (CpuL p T V now s ++ X)) : (CpuL p T V now s ++ X)[3]? = some (QueR p.q s) := rfl
theorem cRelease_no (H : St w0 S0 w (CpuL p T V now s ++ X)) {f : Int} (hf : relA p.n T now id dem = f) (hne : f ≠ 0) (hT : ∀ j, j < p.n → CTkOK now (T j)) (n0 : 0 ≤ now) (n1 : now < 4611686018427387904) (hd : 0 ≤ dem) :
    Calls Try.prog 14 #[.pointer (some ⟨p.c, 0, none⟩), .int .i64 id, .int .u64 dem] w fun e w' => e = .returned (.int .i64 f) ∧ St w0 S0 w' (CpuL p T V now s ++ X) := by
  obtain ⟨b0, b1, b2, b3⟩ := cpu_box H
  have HH := Lib.hid H
  by_cases h0 : id < 0
  · obtain rfl : f = 1 := by rw [← hf]; exact if_pos (Or.inl h0)
    have d0 : decide (id < 0) = true := decide_eq_true h0
    clear H h0 hf hne hT
    go_enter Try.func14, Try.ntmps14
    go_wp2_with fail
    go_ret
    exact ⟨rfl, HH.out⟩
  have d0 : decide (id < 0) = false := decide_eq_false h0
  obtain ⟨j, rfl⟩ : ∃ j : Nat, id = (j : Int) := ⟨id.toNat, by omega⟩
  by_cases h1 : j < p.n
  case neg =>
    obtain rfl : f = 1 := by rw [← hf]; exact if_pos (Or.inr (Or.inl (by omega)))
    have d1 : decide ((p.n : Int) ≤ (j : Int)) = true := decide_eq_true (by omega)
    have d1' : decide (p.n ≤ j) = true := decide_eq_true (by omega)
    clear H h0 hf hne hT
    go_enter Try.func14, Try.ntmps14
    go_wp2_with fail
    go_ret
    exact ⟨rfl, HH.out⟩
  have d1 : decide ((p.n : Int) ≤ (j : Int)) = false := decide_eq_false (by omega)
  have d1' : decide (p.n ≤ j) = false := decide_eq_false (by omega)
  by_cases hz : dem = 0
  · subst hz
    obtain rfl : f = 1 := by rw [← hf]; exact if_pos (Or.inr (Or.inr rfl))
    clear H h0 hf hne hT
    go_enter Try.func14, Try.ntmps14
    go_wp2_with fail
    go_ret
    exact ⟨rfl, HH.out⟩
  have d2 : (dem == 0) = false := beq_eq_false_iff_ne.2 hz
  obtain ⟨g, off, hA, hc, hfr⟩ := cpu_task H h1
  obtain ⟨p0, p1, c0', e0', D0, D1, r0, r1⟩ := hT j h1
  have c2 := hc 2 (by omega)
  have c3 := hc 3 (by omega)
  have c4 := hc 4 (by omega)
  have c5 := hc 5 (by omega)
  have c6 := hc 6 (by omega)
  rw [hA] at b0
  unfold tkv at c2 c3 c4 c5 c6
  have v0 : (0 : Int) ≤ (j : Int) := by omega
  have v1 : (j : Int) < (p.n : Int) := by omega
  have B3 := Lib.hid (show ∀ k, (w.drewN k).cell? ⟨p.c, 3, none⟩ = some (.int .u64 now) from fun k => b3)
  have C3 := Lib.hid (show ∀ k, (w.drewN k).cell? ⟨g, off + j * 10 + 3, none⟩ = some (.int .u64 (T j).dead) from fun k => c3)
  unfold relA at hf
  rw [if_neg (by omega), Int.toNat_natCast] at hf
  generalize T j = t at *
  obtain ⟨prio, cost, per, dead, began, rel, there, dm, ran, unt⟩ := t
  dsimp only at *
  cases there with
  | true =>
    rw [if_pos rfl] at hf
    subst hf
    clear H hc hfr hA h0 hne hT hz
    go_enter Try.func14, Try.ntmps14
    go_wp2_with fail
    go_ret
    exact ⟨rfl, HH.out⟩
  | false =>
    rw [if_neg (by decide)] at hf
    have w1 : IntKind.u64.wrap (now - rel) = now - rel := IntWalk.u64_in _ ⟨by omega, by omega⟩
    cases began with
    | true =>
      by_cases hp : now - rel < per
      · rw [if_pos ⟨rfl, hp⟩] at hf
        subst hf
        have y1 : decide (now - rel < per) = true := decide_eq_true hp
        clear H hc hfr hA h0 hne hT hz hp
        go_enter Try.func14, Try.ntmps14
        go_wp2_with fail
        go_quiet (fail)
        go_wp2_with fail
        go_ret
        exact ⟨rfl, HH.out.drewN _⟩
      · rw [if_neg fun h => hp h.2] at hf
        have y1 : decide (now - rel < per) = false := decide_eq_false hp
        by_cases hh : 4611686018427387904 ≤ now + dead
        · rw [if_pos hh] at hf
          subst hf
          have AD := Lib.hid (fun w => add_no now dead w n0 D0 (by omega))
          clear H hc hfr hA h0 hne hT hz hp hh
          go_enter Try.func14, Try.ntmps14
          go_wp2_with fail
          go_quiet (fail)
          have e3 := B3.out nq
          have e4 := C3.out nq
          have HQ := Lib.hid (HH.out.drewN nq)
          clear B3 C3 HH
          generalize w.drewN nq = wq at *
          go_wp2_with fail
          go_quiet ((go_at_call 28; exact q_left (AD.out _)))
          go_wp2_with fail
          go_ret
          exact ⟨rfl, HQ.out.drewN _⟩
        · rw [if_neg hh] at hf; exact absurd hf.symm hne
    | false =>
      rw [if_neg fun h => by cases h.1] at hf
      by_cases hh : 4611686018427387904 ≤ now + dead
      · rw [if_pos hh] at hf
        subst hf
        have AD := Lib.hid (fun w => add_no now dead w n0 D0 (by omega))
        clear H hc hfr hA h0 hne hT hz hh
        go_enter Try.func14, Try.ntmps14
        go_wp2_with fail
        go_quiet (fail)
        have e3 := B3.out nq
        have e4 := C3.out nq
        have HQ := Lib.hid (HH.out.drewN nq)
        clear B3 C3 HH
        generalize w.drewN nq = wq at *
        go_wp2_with fail
        go_quiet ((go_at_call 28; exact q_left (AD.out _)))
        go_wp2_with fail
        go_ret
        exact ⟨rfl, HQ.out.drewN _⟩
      · rw [if_neg hh] at hf; exact absurd hf.symm hne
end
end Go.Proofs.Ytdnonhhphkmlmaa
