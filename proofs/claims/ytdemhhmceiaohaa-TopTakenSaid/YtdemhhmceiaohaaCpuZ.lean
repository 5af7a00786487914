/- Layer 17: a processor: Now, Work, Job, Wake. Layer 17: a processor: Release. Layer 17: a processor: a job is released. Layer 17: a processor: the first task; a server is served. Layer 17: a processor: a server is served; the first server that can. Layer 17: a processor: who runs; whose time is missed; a job runs a tick. Layer 17: a processor: whose time is missed. Layer 17: a processor: a job runs a tick. Layer 17: a processor: a tick, by who runs. Layer 17: a processor: a tick in which a server runs, or nobody.. Layer 17: a processor: Tick. Layer 17: a queue's bound is taken down again. Plain theorems. Layer 17: a processor: Tick, when no time is left. Layer 17: whether tasks and loads may be a processor's. -/
import Derived.Test.YtdemhhmceiaohaaCpuM
import Derived.BigQuiet
import Derived.Deep.QuietTactic
import Derived.RegionTactic
import Derived.Deep.RegionHeld3
import Derived.Deep.DeepCutAuto
import Derived.Deep.CutBlock
import Derived.Test.YtdemhhmceiaohaaReadyB
import Derived.Test.YtdemhhmceiaohaaRtaC
namespace Go.Proofs.Ytdemhhmceiaohaa
open Go.RowKit
section
set_option linter.unusedVariables false
set_option maxRecDepth 100000
set_option maxHeartbeats 1000000
section
variable {w0 w : World} {S0 : Nat → Prop} {X : List Res} {p : Pl} {T T' : Nat → CTk} {V V' : Nat → Sv} {now id x : Int} {s : QS}
/-- A task's job, as it is told. -/
def jobA (n : Nat) (T : Nat → CTk) (id : Int) : Int × Int × Bool := if 0 ≤ id ∧ id < n ∧ (T id.toNat).there = true then ((T id.toNat).ran, (T id.toNat).unt, true) else (0, 0, false)
theorem cJob_c (H : St w0 S0 w (CpuL p T V now s ++ X)) : Calls Try.prog 11 #[.pointer (some ⟨p.c, 0, none⟩), .int .i64 id] w fun e w' => e = .returned (.tuple #[.int .u64 (jobA p.n T id).1, .int .u64 (jobA p.n T id).2.1, .bool (jobA p.n T id).2.2]) ∧ St w0 S0 w' (CpuL p T V now s ++ X) := by
  obtain ⟨b0, b1, b2, b3⟩ := cpu_box H
  have HH := Lib.hid H
  by_cases h0 : id < 0
  · have e : jobA p.n T id = (0, 0, false) := if_neg (by omega)
    rw [e]
    have d0 : decide (id < 0) = true := decide_eq_true h0
    clear H h0 e
    go_enter Try.func11, Try.ntmps11
    go_wp2_with fail
    refine bodyPost_ret (v := .tuple #[.int .u64 0, .int .u64 0, .bool false]) ?_ rfl ⟨rfl, HH.out⟩
    simp [results, Try.results11, go_sem]
  have d0 : decide (id < 0) = false := decide_eq_false h0
  obtain ⟨j, rfl⟩ : ∃ j : Nat, id = (j : Int) := ⟨id.toNat, by omega⟩
  by_cases h1 : j < p.n
  · obtain ⟨g, off, hA, hc, hf⟩ := cpu_task H h1
    have c6 := hc 6 (by omega)
    have c8 := hc 8 (by omega)
    have c9 := hc 9 (by omega)
    rw [hA] at b0
    unfold tkv at c6 c8 c9
    have d1 : decide ((p.n : Int) ≤ (j : Int)) = false := decide_eq_false (by omega)
    have d1' : decide (p.n ≤ j) = false := decide_eq_false (by omega)
    have v0 : (0 : Int) ≤ (j : Int) := by omega
    have v1 : (j : Int) < (p.n : Int) := by omega
    cases ht : (T j).there with
    | false =>
      have e : jobA p.n T (j : Int) = (0, 0, false) := if_neg (by rw [Int.toNat_natCast, ht]; simp)
      rw [e]
      rw [ht] at c6
      clear H hc hf hA h0 e ht
      go_enter Try.func11, Try.ntmps11
      go_wp2_with fail
      refine bodyPost_ret (v := .tuple #[.int .u64 0, .int .u64 0, .bool false]) ?_ rfl ⟨rfl, HH.out⟩
      simp [results, Try.results11, go_sem]
    | true =>
      have e : jobA p.n T (j : Int) = ((T j).ran, (T j).unt, true) := if_pos (by rw [Int.toNat_natCast, ht]; exact ⟨by omega, by omega, rfl⟩)
      rw [e]
      rw [ht] at c6
      clear H hc hf hA h0 e ht
      generalize (T j).ran = a at *
      generalize (T j).unt = b at *
      go_enter Try.func11, Try.ntmps11
      go_wp2_with fail
      go_quiet (fail)
      go_wp2_with fail
      refine bodyPost_ret (v := .tuple #[.int .u64 a, .int .u64 b, .bool true]) ?_ rfl ⟨rfl, HH.out.drewN _⟩
      simp [results, Try.results11, go_sem]
  · have e : jobA p.n T (j : Int) = (0, 0, false) := if_neg (by omega)
    rw [e]
    have d1 : decide ((p.n : Int) ≤ (j : Int)) = true := decide_eq_true (by omega)
    have d1' : decide (p.n ≤ j) = true := decide_eq_true (by omega)
    clear H h0 e
    go_enter Try.func11, Try.ntmps11
    go_wp2_with fail
    refine bodyPost_ret (v := .tuple #[.int .u64 0, .int .u64 0, .bool false]) ?_ rfl ⟨rfl, HH.out⟩
    simp [results, Try.results11, go_sem]
def workA (m : Nat) (V : Nat → Sv) (id : Int) : Int := if 0 ≤ id ∧ id < m then (V id.toNat).work else 0
theorem cWork_c (H : St w0 S0 w (CpuL p T V now s ++ X)) : Calls Try.prog 23 #[.pointer (some ⟨p.c, 0, none⟩), .int .i64 id] w fun e w' => e = .returned (.int .u64 (workA p.m V id)) ∧ w' = w := by
  obtain ⟨b0, b1, b2, b3⟩ := cpu_box H
  by_cases h0 : id < 0
  · have e : workA p.m V id = 0 := if_neg (by omega)
    rw [e]
    have d0 : decide (id < 0) = true := decide_eq_true h0
    clear H h0 e
    go_enter Try.func23, Try.ntmps23
    go_wp2_with fail
    go_ret
    exact ⟨rfl, rfl⟩
  have d0 : decide (id < 0) = false := decide_eq_false h0
  obtain ⟨j, rfl⟩ : ∃ j : Nat, id = (j : Int) := ⟨id.toNat, by omega⟩
  by_cases h1 : j < p.m
  · obtain ⟨g, off, hA, c0, c1, hf⟩ := cpu_server H h1
    rw [hA] at b1
    have d1 : decide ((p.m : Int) ≤ (j : Int)) = false := decide_eq_false (by omega)
    have d1' : decide (p.m ≤ j) = false := decide_eq_false (by omega)
    have v0 : (0 : Int) ≤ (j : Int) := by omega
    have v1 : (j : Int) < (p.m : Int) := by omega
    have e : workA p.m V (j : Int) = (V j).work := if_pos (by omega)
    rw [e]
    clear H hf hA h0 e
    go_enter Try.func23, Try.ntmps23
    go_wp2_with fail
    go_ret
    exact ⟨rfl, rfl⟩
  · have e : workA p.m V (j : Int) = 0 := if_neg (by omega)
    rw [e]
    have d1 : decide ((p.m : Int) ≤ (j : Int)) = true := decide_eq_true (by omega)
    have d1' : decide (p.m ≤ j) = true := decide_eq_true (by omega)
    clear H h0 e
    go_enter Try.func23, Try.ntmps23
    go_wp2_with fail
    go_ret
    exact ⟨rfl, rfl⟩
/-- What Wake does. -/
def wakeA (m : Nat) (id : Int) : Int := if 0 ≤ id ∧ id < m then 0 else 1
def wakeV (m : Nat) (V : Nat → Sv) (id x : Int) : Nat → Sv := if 0 ≤ id ∧ id < m then updK V id.toNat { V id.toNat with work := (V id.toNat).work + min x (1048576 - (V id.toNat).work) } else V
theorem cWake_c (H : St w0 S0 w (CpuL p T V now s ++ X)) (hw : ∀ j, j < p.m → 0 ≤ (V j).work ∧ (V j).work ≤ 1048576) (hx : 0 ≤ x) : Calls Try.prog 10 #[.pointer (some ⟨p.c, 0, none⟩), .int .i64 id, .int .u64 x] w fun e w' => e = .returned (.int .i64 (wakeA p.m id)) ∧ St w0 S0 w' (CpuL p T (wakeV p.m V id x) now s ++ X) := by
  obtain ⟨b0, b1, b2, b3⟩ := cpu_box H
  have HH := Lib.hid H
  by_cases h0 : id < 0
  · have e : wakeA p.m id = 1 := if_neg (by omega)
    have e2 : wakeV p.m V id x = V := if_neg (by omega)
    rw [e, e2]
    have d0 : decide (id < 0) = true := decide_eq_true h0
    clear H h0 e e2 hw
    go_enter Try.func10, Try.ntmps10
    go_wp2_with fail
    go_ret
    exact ⟨rfl, HH.out⟩
  have d0 : decide (id < 0) = false := decide_eq_false h0
  obtain ⟨j, rfl⟩ : ∃ j : Nat, id = (j : Int) := ⟨id.toNat, by omega⟩
  by_cases h1 : j < p.m
  · obtain ⟨g, off, hA, c0, c1, hf⟩ := cpu_server H h1
    have hwj := hw j h1
    rw [hA] at b1
    have HA := Lib.hid hA
    have d1 : decide ((p.m : Int) ≤ (j : Int)) = false := decide_eq_false (by omega)
    have d1' : decide (p.m ≤ j) = false := decide_eq_false (by omega)
    have v0 : (0 : Int) ≤ (j : Int) := by omega
    have v1 : (j : Int) < (p.m : Int) := by omega
    have e : wakeA p.m (j : Int) = 0 := if_pos (by omega)
    have e2 : wakeV p.m V (j : Int) x = updK V j { V j with work := (V j).work + min x (1048576 - (V j).work) } := if_pos (by omega)
    rw [e, e2]
    have f1 := hf (off + j * 2 + 1)
    obtain ⟨y, hy⟩ : ∃ y, (V j).work = y := ⟨_, rfl⟩
    rw [hy] at c1 hwj
    have w1 : IntKind.u64.wrap (1048576 - y) = 1048576 - y := IntWalk.u64_in _ ⟨by omega, by omega⟩
    have w2 : (if x < 1048576 - y then x else 1048576 - y) = min x (1048576 - y) := by split <;> omega
    have w2' : (if 1048576 - y < x then 1048576 - y else x) = min x (1048576 - y) := by split <;> omega
    have w3 : IntKind.u64.wrap (y + min x (1048576 - y)) = y + min x (1048576 - y) := IntWalk.u64_in _ ⟨by omega, by omega⟩
    have FIN := Lib.hid (cpu_wset HH.out HA.out h1 (y + min x (1048576 - y))).drew
    rw [hy]
    clear H hf hA h0 e e2 hw hy
    go_enter Try.func10, Try.ntmps10
    go_wp2_with fail
    go_region
    go_wp2_with fail
    go_ret
    exact ⟨rfl, FIN.out⟩
  · have e : wakeA p.m (j : Int) = 1 := if_neg (by omega)
    have e2 : wakeV p.m V (j : Int) x = V := if_neg (by omega)
    rw [e, e2]
    have d1 : decide ((p.m : Int) ≤ (j : Int)) = true := decide_eq_true (by omega)
    have d1' : decide (p.m ≤ j) = true := decide_eq_true (by omega)
    clear H h0 e e2 hw
    go_enter Try.func10, Try.ntmps10
    go_wp2_with fail
    go_ret
    exact ⟨rfl, HH.out⟩
end
end
section
set_option linter.unusedVariables false
set_option maxRecDepth 100000
set_option maxHeartbeats 2000000
/-- What holds of a task's numbers. -/
structure CTkOK (now : Int) (t : CTk) : Prop where
  p0 : 0 ≤ t.prio
  p1 : t.prio < 101
  c0 : 0 ≤ t.cost
  e0 : 0 ≤ t.per
  d0 : 0 ≤ t.dead
  d1 : t.dead < 4611686018427387904
  r0 : 0 ≤ t.rel
  r1 : t.rel ≤ now
/-- The task, once it was released. -/
def relT (t : CTk) (now dem : Int) : CTk := { t with began := true, rel := now, there := true, dem := dem, ran := 0, unt := now + t.dead }
/-- What Release answers. -/
def relA (n : Nat) (T : Nat → CTk) (now id dem : Int) : Int :=
  if id < 0 ∨ (n : Int) ≤ id ∨ dem = 0 then 1
  else if (T id.toNat).there = true then 12
  else if (T id.toNat).began = true ∧ now - (T id.toNat).rel < (T id.toNat).per then 11
  else if 4611686018427387904 ≤ now + (T id.toNat).dead then 2 else 0
section
variable {w0 w : World} {S0 : Nat → Prop} {X : List Res} {p : Pl} {T T' : Nat → CTk} {V V' : Nat → Sv} {now id dem : Int} {s s' : QS}
theorem cpu_que (H : St w0 S0 w (CpuL p T V now s ++ X)) : (CpuL p T V now s ++ X)[3]? = some (QueR p.q s) := rfl
theorem cRelease_no (H : St w0 S0 w (CpuL p T V now s ++ X)) {f : Int} (hf : relA p.n T now id dem = f) (hne : f ≠ 0) (hT : ∀ j, j < p.n → CTkOK now (T j)) (n0 : 0 ≤ now) (n1 : now < 4611686018427387904) (hd : 0 ≤ dem) :
    Calls Try.prog 9 #[.pointer (some ⟨p.c, 0, none⟩), .int .i64 id, .int .u64 dem] w fun e w' => e = .returned (.int .i64 f) ∧ St w0 S0 w' (CpuL p T V now s ++ X) := by
  obtain ⟨b0, b1, b2, b3⟩ := cpu_box H
  have HH := Lib.hid H
  by_cases h0 : id < 0
  · obtain rfl : f = 1 := by rw [← hf]; exact if_pos (Or.inl h0)
    have d0 : decide (id < 0) = true := decide_eq_true h0
    clear H h0 hf hne hT
    go_enter Try.func9, Try.ntmps9
    go_wp2_with fail
    go_ret
    exact ⟨rfl, HH.out⟩
  have d0 : decide (id < 0) = false := decide_eq_false h0
  obtain ⟨j, rfl⟩ : ∃ j : Nat, id = (j : Int) := ⟨id.toNat, by omega⟩
  by_cases h1 : j < p.n
  case neg =>
    obtain rfl : f = 1 := by rw [← hf]; exact if_pos (Or.inr (Or.inl (by omega)))
    have d1 : decide ((p.n : Int) ≤ (j : Int)) = true := decide_eq_true (by omega)
    have d1' : decide (p.n ≤ j) = true := decide_eq_true (by omega)
    clear H h0 hf hne hT
    go_enter Try.func9, Try.ntmps9
    go_wp2_with fail
    go_ret
    exact ⟨rfl, HH.out⟩
  have d1 : decide ((p.n : Int) ≤ (j : Int)) = false := decide_eq_false (by omega)
  have d1' : decide (p.n ≤ j) = false := decide_eq_false (by omega)
  by_cases hz : dem = 0
  · subst hz
    obtain rfl : f = 1 := by rw [← hf]; exact if_pos (Or.inr (Or.inr rfl))
    clear H h0 hf hne hT
    go_enter Try.func9, Try.ntmps9
    go_wp2_with fail
    go_ret
    exact ⟨rfl, HH.out⟩
  have d2 : (dem == 0) = false := beq_eq_false_iff_ne.2 hz
  obtain ⟨g, off, hA, hc, hfr⟩ := cpu_task H h1
  obtain ⟨p0, p1, c0', e0', D0, D1, r0, r1⟩ := hT j h1
  have c2 := hc 2 (by omega)
  have c3 := hc 3 (by omega)
  have c4 := hc 4 (by omega)
  have c5 := hc 5 (by omega)
  have c6 := hc 6 (by omega)
  rw [hA] at b0
  unfold tkv at c2 c3 c4 c5 c6
  have v0 : (0 : Int) ≤ (j : Int) := by omega
  have v1 : (j : Int) < (p.n : Int) := by omega
  have B3 := Lib.hid (show ∀ k, (w.drewN k).cell? ⟨p.c, 3, none⟩ = some (.int .u64 now) from fun k => b3)
  have C3 := Lib.hid (show ∀ k, (w.drewN k).cell? ⟨g, off + j * 10 + 3, none⟩ = some (.int .u64 (T j).dead) from fun k => c3)
  unfold relA at hf
  rw [if_neg (by omega), Int.toNat_natCast] at hf
  generalize T j = t at *
  obtain ⟨prio, cost, per, dead, began, rel, there, dm, ran, unt⟩ := t
  dsimp only at *
  cases there with
  | true =>
    rw [if_pos rfl] at hf
    subst hf
    clear H hc hfr hA h0 hne hT hz
    go_enter Try.func9, Try.ntmps9
    go_wp2_with fail
    go_ret
    exact ⟨rfl, HH.out⟩
  | false =>
    rw [if_neg (by decide)] at hf
    have w1 : IntKind.u64.wrap (now - rel) = now - rel := IntWalk.u64_in _ ⟨by omega, by omega⟩
    cases began with
    | true =>
      by_cases hp : now - rel < per
      · rw [if_pos ⟨rfl, hp⟩] at hf
        subst hf
        have y1 : decide (now - rel < per) = true := decide_eq_true hp
        clear H hc hfr hA h0 hne hT hz hp
        go_enter Try.func9, Try.ntmps9
        go_wp2_with fail
        go_quiet (fail)
        go_wp2_with fail
        go_ret
        exact ⟨rfl, HH.out.drewN _⟩
      · rw [if_neg fun h => hp h.2] at hf
        have y1 : decide (now - rel < per) = false := decide_eq_false hp
        by_cases hh : 4611686018427387904 ≤ now + dead
        · rw [if_pos hh] at hf
          subst hf
          have AD := Lib.hid (fun w => add_no now dead w n0 D0 (by omega))
          clear H hc hfr hA h0 hne hT hz hp hh
          go_enter Try.func9, Try.ntmps9
          go_wp2_with fail
          go_quiet (fail)
          have e3 := B3.out nq
          have e4 := C3.out nq
          have HQ := Lib.hid (HH.out.drewN nq)
          clear B3 C3 HH
          generalize w.drewN nq = wq at *
          go_wp2_with fail
          go_quiet ((go_at_call 28; exact q_left (AD.out _)))
          go_wp2_with fail
          go_ret
          exact ⟨rfl, HQ.out.drewN _⟩
        · rw [if_neg hh] at hf; exact absurd hf.symm hne
    | false =>
      rw [if_neg fun h => by cases h.1] at hf
      by_cases hh : 4611686018427387904 ≤ now + dead
      · rw [if_pos hh] at hf
        subst hf
        have AD := Lib.hid (fun w => add_no now dead w n0 D0 (by omega))
        clear H hc hfr hA h0 hne hT hz hh
        go_enter Try.func9, Try.ntmps9
        go_wp2_with fail
        go_quiet (fail)
        have e3 := B3.out nq
        have e4 := C3.out nq
        have HQ := Lib.hid (HH.out.drewN nq)
        clear B3 C3 HH
        generalize w.drewN nq = wq at *
        go_wp2_with fail
        go_quiet ((go_at_call 28; exact q_left (AD.out _)))
        go_wp2_with fail
        go_ret
        exact ⟨rfl, HQ.out.drewN _⟩
      · rw [if_neg hh] at hf; exact absurd hf.symm hne
end
end
section
set_option linter.unusedVariables false
set_option maxRecDepth 100000
set_option maxHeartbeats 2000000
section
variable {w0 w : World} {S0 : Nat → Prop} {X : List Res} {p : Pl} {T T' : Nat → CTk} {V V' : Nat → Sv} {now id dem : Int} {s s' : QS}
theorem cpu_lay_at (T : Nat → CTk) (i : Nat) (t : CTk) (j k : Nat) (hk : k < 10) : (upd2 (upd2 (upd2 (upd2 (upd2 (upd2 (upd2 (upd2 (upd2 (upd2 (tkv T) i 0 (.int .i64 t.prio)) i 1 (.int .u64 t.cost)) i 2 (.int .u64 t.per)) i 3 (.int .u64 t.dead)) i 4 (.bool t.began)) i 5 (.int .u64 t.rel)) i 6 (.bool t.there)) i 7 (.int .u64 t.dem)) i 8 (.int .u64 t.ran)) i 9 (.int .u64 t.unt)) j k = tkv (updK T i t) j k := by
  by_cases e : j = i
  · subst e
    unfold tkv
    rw [updK_self]
    rcases (show k = 0 ∨ k = 1 ∨ k = 2 ∨ k = 3 ∨ k = 4 ∨ k = 5 ∨ k = 6 ∨ k = 7 ∨ k = 8 ∨ k = 9 by omega) with rfl | rfl | rfl | rfl | rfl | rfl | rfl | rfl | rfl | rfl <;> simp [upd2]
  · have : updK T i t j = T j := updK_ne T t e
    unfold tkv
    rw [this]
    simp [upd2, e]
/-- A task is laid anew whole. -/
theorem cpu_lay (H : St w0 S0 w (CpuL p T V now s ++ X)) {i g off : Nat} (hA : p.A = some ⟨g, off, none⟩) (hi : i < p.n) (t : CTk) :
    St w0 S0 ((((((((((w.setCell ⟨g, off + i * 10, none⟩ (.int .i64 t.prio)).setCell ⟨g, off + i * 10 + 1, none⟩ (.int .u64 t.cost)).setCell ⟨g, off + i * 10 + 2, none⟩ (.int .u64 t.per)).setCell ⟨g, off + i * 10 + 3, none⟩ (.int .u64 t.dead)).setCell ⟨g, off + i * 10 + 4, none⟩ (.bool t.began)).setCell ⟨g, off + i * 10 + 5, none⟩ (.int .u64 t.rel)).setCell ⟨g, off + i * 10 + 6, none⟩ (.bool t.there)).setCell ⟨g, off + i * 10 + 7, none⟩ (.int .u64 t.dem)).setCell ⟨g, off + i * 10 + 8, none⟩ (.int .u64 t.ran)).setCell ⟨g, off + i * 10 + 9, none⟩ (.int .u64 t.unt)) (CpuL p (updK T i t) V now s ++ X) := by
  obtain ⟨c, q, A, ca, n, E, ce, m⟩ := p
  dsimp only at hA hi
  subst hA
  have h0 := H.lis_set 1 rfl (k := i * 10 + 0) (by show i * 10 + 0 < n * 10; omega) (.int .i64 t.prio)
  have h1 := h0.lis_set 1 rfl (k := i * 10 + 1) (by show i * 10 + 1 < n * 10; omega) (.int .u64 t.cost)
  have h2 := h1.lis_set 1 rfl (k := i * 10 + 2) (by show i * 10 + 2 < n * 10; omega) (.int .u64 t.per)
  have h3 := h2.lis_set 1 rfl (k := i * 10 + 3) (by show i * 10 + 3 < n * 10; omega) (.int .u64 t.dead)
  have h4 := h3.lis_set 1 rfl (k := i * 10 + 4) (by show i * 10 + 4 < n * 10; omega) (.bool t.began)
  have h5 := h4.lis_set 1 rfl (k := i * 10 + 5) (by show i * 10 + 5 < n * 10; omega) (.int .u64 t.rel)
  have h6 := h5.lis_set 1 rfl (k := i * 10 + 6) (by show i * 10 + 6 < n * 10; omega) (.bool t.there)
  have h7 := h6.lis_set 1 rfl (k := i * 10 + 7) (by show i * 10 + 7 < n * 10; omega) (.int .u64 t.dem)
  have h8 := h7.lis_set 1 rfl (k := i * 10 + 8) (by show i * 10 + 8 < n * 10; omega) (.int .u64 t.ran)
  have h9 := h8.lis_set 1 rfl (k := i * 10 + 9) (by show i * 10 + 9 < n * 10; omega) (.int .u64 t.unt)
  rw [grid_set _ _ hi (show 0 < 10 by omega), grid_set _ _ hi (show 1 < 10 by omega), grid_set _ _ hi (show 2 < 10 by omega), grid_set _ _ hi (show 3 < 10 by omega), grid_set _ _ hi (show 4 < 10 by omega), grid_set _ _ hi (show 5 < 10 by omega), grid_set _ _ hi (show 6 < 10 by omega), grid_set _ _ hi (show 7 < 10 by omega), grid_set _ _ hi (show 8 < 10 by omega), grid_set _ _ hi (show 9 < 10 by omega)] at h9
  simp only [← Nat.add_assoc, Nat.add_zero] at h9
  show St w0 S0 _ (([_, LisR _ _ _ _ (grid n 10 (tkv (updK T i t))), _, _] ++ _) ++ X)
  rw [grid_like (V := tkv (updK T i t)) (fun j k hj hk => (cpu_lay_at T i t j k hk).symm)]
  exact h9
theorem cRelease_ok (H : St w0 S0 w (CpuL p T V now s ++ X)) {j : Nat} (hj : j < p.n) (hd : 0 < dem) (ht : (T j).there = false) (hp : (T j).began = true → (T j).per ≤ now - (T j).rel) (hh : now + (T j).dead < 4611686018427387904) (hT : CTkOK now (T j)) (n0 : 0 ≤ now) (n1 : now < 4611686018427387904)
    {m : Nat} (hs : s.ok m) {f : Int} (hC : ComeP s (j : Int) (T j).prio f s') :
    Calls Try.prog 9 #[.pointer (some ⟨p.c, 0, none⟩), .int .i64 (j : Int), .int .u64 dem] w fun e w' => e = .returned (.int .i64 f) ∧ St w0 S0 w' (CpuL p (updK T j (relT (T j) now dem)) V now s' ++ X) := by
  obtain ⟨b0, b1, b2, b3⟩ := cpu_box H
  have d0 : decide ((j : Int) < 0) = false := decide_eq_false (by omega)
  have d1 : decide ((p.n : Int) ≤ (j : Int)) = false := decide_eq_false (by omega)
  have d1' : decide (p.n ≤ j) = false := decide_eq_false (by omega)
  have d2 : (dem == 0) = false := beq_eq_false_iff_ne.2 (by omega)
  obtain ⟨g, off, hA, hc, hfr⟩ := cpu_task H hj
  obtain ⟨p0, p1, c0', e0', D0, D1, r0, r1⟩ := hT
  have c0 := hc 0 (by omega)
  have c1 := hc 1 (by omega)
  have c2 := hc 2 (by omega)
  have c3 := hc 3 (by omega)
  have c4 := hc 4 (by omega)
  have c5 := hc 5 (by omega)
  have c6 := hc 6 (by omega)
  rw [Nat.add_zero] at c0
  rw [hA] at b0
  unfold tkv at c0 c1 c2 c3 c4 c5 c6
  have v0 : (0 : Int) ≤ (j : Int) := by omega
  have v1 : (j : Int) < (p.n : Int) := by omega
  have HC := Lib.hid (show ∀ k, (w.drewN k).cell? ⟨p.c, 2, none⟩ = some (.pointer (some ⟨p.q, 0, none⟩)) ∧ (w.drewN k).cell? ⟨p.c, 3, none⟩ = some (.int .u64 now) ∧ (∀ i, i < 10 → (w.drewN k).cell? ⟨g, off + j * 10 + i, none⟩ = some (tkv T j i)) ∧ ∀ o, (w.drewN k).frozen? ⟨g, o, none⟩ = false from fun k => ⟨b2, b3, hc, hfr⟩)
  have AD := Lib.hid (fun w => add_ok now (T j).dead w n0 D0 (by omega) hh)
  have HH := Lib.hid H
  have HA := Lib.hid hA
  have HT := Lib.hid (show ∀ i, tkv T j i = tkv (fun _ => T j) 0 i from fun i => rfl)
  have w1 : IntKind.u64.wrap (now - (T j).rel) = now - (T j).rel := IntWalk.u64_in _ ⟨by omega, by omega⟩
  have CO := Lib.hid hC
  have HS := Lib.hid hs
  rw [ht] at c6
  clear H hc hfr hC hs hA b2
  cases hb : (T j).began with
  | true =>
    have y1 : decide (now - (T j).rel < (T j).per) = false := decide_eq_false (by have := hp hb; omega)
    rw [hb] at c4
    clear hp hb ht
    go_enter Try.func9, Try.ntmps9
    go_wp2_with fail
    go_quiet (fail)
    obtain ⟨z2, z3, zc, zf⟩ := HC.out nq
    have HQ := Lib.hid (HH.out.drewN nq)
    clear b3 c0 c1 c2 c3 c4 c5 c6 HC HH
    generalize w.drewN nq = wq at *
    have c3 := zc 3 (by omega)
    have HZ := Lib.hid (show ∀ k, (wq.drewN k).cell? ⟨p.c, 2, none⟩ = some (.pointer (some ⟨p.q, 0, none⟩)) ∧ (wq.drewN k).cell? ⟨p.c, 3, none⟩ = some (.int .u64 now) ∧ (∀ i, i < 10 → (wq.drewN k).cell? ⟨g, off + j * 10 + i, none⟩ = some (tkv T j i)) ∧ ∀ o, (wq.drewN k).frozen? ⟨g, o, none⟩ = false from fun k => ⟨z2, z3, zc, zf⟩)
    unfold tkv at c3
    clear z2 zc zf
    go_wp2_with fail
    go_quiet ((go_at_call 28; exact q_left (AD.out _)))
    obtain ⟨z2, z3, zc, zf⟩ := HZ.out nq
    have HQ := Lib.hid (HQ.out.drewN nq)
    clear c3 HZ AD
    generalize wq.drewN nq = wr at *
    have c0 := zc 0 (by omega)
    have c1 := zc 1 (by omega)
    have c2 := zc 2 (by omega)
    have c3 := zc 3 (by omega)
    have c4 := zc 4 (by omega)
    have c5 := zc 5 (by omega)
    have c6 := zc 6 (by omega)
    have c7 := zc 7 (by omega)
    have c8 := zc 8 (by omega)
    have c9 := zc 9 (by omega)
    rw [Nat.add_zero] at c0
    unfold tkv at c0 c1 c2 c3 c4 c5 c6 c7 c8 c9
    clear zc
    go_wp2_with fail
    go_region
    obtain ⟨t, ht⟩ : ∃ t, relT (T j) now dem = t := ⟨_, rfl⟩
    have HT2 := Lib.hid ht
    have s2 := (cpu_lay HQ.out HA.out hj t).drew
    rw [show t.prio = (T j).prio by rw [← ht]; rfl, show t.cost = (T j).cost by rw [← ht]; rfl, show t.per = (T j).per by rw [← ht]; rfl, show t.dead = (T j).dead by rw [← ht]; rfl, show t.began = true by rw [← ht]; rfl, show t.rel = now by rw [← ht]; rfl, show t.there = true by rw [← ht]; rfl, show t.dem = dem by rw [← ht]; rfl, show t.ran = 0 by rw [← ht]; rfl, show t.unt = now + (T j).dead by rw [← ht]; rfl] at s2
    have S2 := Lib.hid s2
    have PR := Lib.hid (show t.prio = (T j).prio by rw [← ht]; rfl)
    clear s2 ht
    have q2 := (cpu_box S2.out).2.2.1
    obtain ⟨g', off', hA', hc', -⟩ := cpu_task S2.out hj
    obtain ⟨rfl, rfl⟩ : g = g' ∧ off = off' := by rw [HA.out] at hA'; simpa using hA'
    have q0 := hc' 0 (by omega)
    rw [Nat.add_zero (off + j * 10)] at q0
    unfold tkv at q0
    rw [updK_self] at q0
    rw [PR.out] at q0
    have GET := Lib.hid (fun (W : World) (s2 : QS) (K : St w0 S0 W (CpuL p (updK T j t) V now s2 ++ X)) => show W.cell? ⟨p.c, 2, none⟩ = some (.pointer (some ⟨p.q, 0, none⟩)) ∧ W.cell? ⟨g, off + j * 10, none⟩ = some (.int .i64 (T j).prio) from by
      obtain ⟨g', off', hA', hc', -⟩ := cpu_task K hj
      obtain ⟨rfl, rfl⟩ : g = g' ∧ off = off' := by rw [HA.out] at hA'; simpa using hA'
      have q0 := hc' 0 (by omega)
      rw [Nat.add_zero (off + j * 10)] at q0
      unfold tkv at q0
      rw [updK_self, PR.out] at q0
      exact ⟨(cpu_box K).2.2.1, q0⟩)
    generalize ((((((((((wr.setCell ⟨g, off + j * 10, none⟩ (.int .i64 (T j).prio)).setCell ⟨g, off + j * 10 + 1, none⟩ (.int .u64 (T j).cost)).setCell ⟨g, off + j * 10 + 2, none⟩ (.int .u64 (T j).per)).setCell ⟨g, off + j * 10 + 3, none⟩ (.int .u64 (T j).dead)).setCell ⟨g, off + j * 10 + 4, none⟩ (.bool true)).setCell ⟨g, off + j * 10 + 5, none⟩ (.int .u64 now)).setCell ⟨g, off + j * 10 + 6, none⟩ (.bool true)).setCell ⟨g, off + j * 10 + 7, none⟩ (.int .u64 dem)).setCell ⟨g, off + j * 10 + 8, none⟩ (.int .u64 0)).setCell ⟨g, off + j * 10 + 9, none⟩ (.int .u64 (now + (T j).dead))).drew = wq at *
    have qq := And.intro q2 q0
    clear hc' hA' z2 z3 zf c0 c1 c2 c3 c4 c5 c6 c7 c8 c9 HQ HT
    go_wp2_with fail
    go_region_held3 (fun w' => w'.cell? ⟨p.c, 2, none⟩ = some (.pointer (some ⟨p.q, 0, none⟩)) ∧ w'.cell? ⟨g, off + j * 10, none⟩ = some (.int .i64 (T j).prio)) (go_keep)
      (first
        | (go_at_call 29; refine (Come_o (i := 3) S2.out.drew rfl HS.out (j : Int) (T j).prio f CO.out).mono ?_; rintro r' w6 ⟨rfl, s6⟩; have S6 := Lib.hid (show St w0 S0 w6 (CpuL p (updK T j t) V now s' ++ X) from s6); have q6 := GET.out w6 s' S6.out; clear s6))
    go_wp2_with fail
    go_ret
    exact ⟨rfl, by rw [HT2.out]; exact S6.out⟩
  | false =>
    rw [hb] at c4
    clear hp hb ht
    go_enter Try.func9, Try.ntmps9
    go_wp2_with fail
    go_quiet (fail)
    obtain ⟨z2, z3, zc, zf⟩ := HC.out nq
    have HQ := Lib.hid (HH.out.drewN nq)
    clear b3 c0 c1 c2 c3 c4 c5 c6 HC HH
    generalize w.drewN nq = wq at *
    have c3 := zc 3 (by omega)
    have HZ := Lib.hid (show ∀ k, (wq.drewN k).cell? ⟨p.c, 2, none⟩ = some (.pointer (some ⟨p.q, 0, none⟩)) ∧ (wq.drewN k).cell? ⟨p.c, 3, none⟩ = some (.int .u64 now) ∧ (∀ i, i < 10 → (wq.drewN k).cell? ⟨g, off + j * 10 + i, none⟩ = some (tkv T j i)) ∧ ∀ o, (wq.drewN k).frozen? ⟨g, o, none⟩ = false from fun k => ⟨z2, z3, zc, zf⟩)
    unfold tkv at c3
    clear z2 zc zf
    go_wp2_with fail
    go_quiet ((go_at_call 28; exact q_left (AD.out _)))
    obtain ⟨z2, z3, zc, zf⟩ := HZ.out nq
    have HQ := Lib.hid (HQ.out.drewN nq)
    clear c3 HZ AD
    generalize wq.drewN nq = wr at *
    have c0 := zc 0 (by omega)
    have c1 := zc 1 (by omega)
    have c2 := zc 2 (by omega)
    have c3 := zc 3 (by omega)
    have c4 := zc 4 (by omega)
    have c5 := zc 5 (by omega)
    have c6 := zc 6 (by omega)
    have c7 := zc 7 (by omega)
    have c8 := zc 8 (by omega)
    have c9 := zc 9 (by omega)
    rw [Nat.add_zero] at c0
    unfold tkv at c0 c1 c2 c3 c4 c5 c6 c7 c8 c9
    clear zc
    go_wp2_with fail
    go_region
    obtain ⟨t, ht⟩ : ∃ t, relT (T j) now dem = t := ⟨_, rfl⟩
    have HT2 := Lib.hid ht
    have s2 := (cpu_lay HQ.out HA.out hj t).drew
    rw [show t.prio = (T j).prio by rw [← ht]; rfl, show t.cost = (T j).cost by rw [← ht]; rfl, show t.per = (T j).per by rw [← ht]; rfl, show t.dead = (T j).dead by rw [← ht]; rfl, show t.began = true by rw [← ht]; rfl, show t.rel = now by rw [← ht]; rfl, show t.there = true by rw [← ht]; rfl, show t.dem = dem by rw [← ht]; rfl, show t.ran = 0 by rw [← ht]; rfl, show t.unt = now + (T j).dead by rw [← ht]; rfl] at s2
    have S2 := Lib.hid s2
    have PR := Lib.hid (show t.prio = (T j).prio by rw [← ht]; rfl)
    clear s2 ht
    have q2 := (cpu_box S2.out).2.2.1
    obtain ⟨g', off', hA', hc', -⟩ := cpu_task S2.out hj
    obtain ⟨rfl, rfl⟩ : g = g' ∧ off = off' := by rw [HA.out] at hA'; simpa using hA'
    have q0 := hc' 0 (by omega)
    rw [Nat.add_zero (off + j * 10)] at q0
    unfold tkv at q0
    rw [updK_self] at q0
    rw [PR.out] at q0
    have GET := Lib.hid (fun (W : World) (s2 : QS) (K : St w0 S0 W (CpuL p (updK T j t) V now s2 ++ X)) => show W.cell? ⟨p.c, 2, none⟩ = some (.pointer (some ⟨p.q, 0, none⟩)) ∧ W.cell? ⟨g, off + j * 10, none⟩ = some (.int .i64 (T j).prio) from by
      obtain ⟨g', off', hA', hc', -⟩ := cpu_task K hj
      obtain ⟨rfl, rfl⟩ : g = g' ∧ off = off' := by rw [HA.out] at hA'; simpa using hA'
      have q0 := hc' 0 (by omega)
      rw [Nat.add_zero (off + j * 10)] at q0
      unfold tkv at q0
      rw [updK_self, PR.out] at q0
      exact ⟨(cpu_box K).2.2.1, q0⟩)
    generalize ((((((((((wr.setCell ⟨g, off + j * 10, none⟩ (.int .i64 (T j).prio)).setCell ⟨g, off + j * 10 + 1, none⟩ (.int .u64 (T j).cost)).setCell ⟨g, off + j * 10 + 2, none⟩ (.int .u64 (T j).per)).setCell ⟨g, off + j * 10 + 3, none⟩ (.int .u64 (T j).dead)).setCell ⟨g, off + j * 10 + 4, none⟩ (.bool true)).setCell ⟨g, off + j * 10 + 5, none⟩ (.int .u64 now)).setCell ⟨g, off + j * 10 + 6, none⟩ (.bool true)).setCell ⟨g, off + j * 10 + 7, none⟩ (.int .u64 dem)).setCell ⟨g, off + j * 10 + 8, none⟩ (.int .u64 0)).setCell ⟨g, off + j * 10 + 9, none⟩ (.int .u64 (now + (T j).dead))).drew = wq at *
    have qq := And.intro q2 q0
    clear hc' hA' z2 z3 zf c0 c1 c2 c3 c4 c5 c6 c7 c8 c9 HQ HT
    go_wp2_with fail
    go_region_held3 (fun w' => w'.cell? ⟨p.c, 2, none⟩ = some (.pointer (some ⟨p.q, 0, none⟩)) ∧ w'.cell? ⟨g, off + j * 10, none⟩ = some (.int .i64 (T j).prio)) (go_keep)
      (first
        | (go_at_call 29; refine (Come_o (i := 3) S2.out.drew rfl HS.out (j : Int) (T j).prio f CO.out).mono ?_; rintro r' w6 ⟨rfl, s6⟩; have S6 := Lib.hid (show St w0 S0 w6 (CpuL p (updK T j t) V now s' ++ X) from s6); have q6 := GET.out w6 s' S6.out; clear s6))
    go_wp2_with fail
    go_ret
    exact ⟨rfl, by rw [HT2.out]; exact S6.out⟩
end
end
section
set_option linter.unusedVariables false
set_option maxRecDepth 100000
set_option maxHeartbeats 2000000
section
variable {w0 w : World} {S0 : Nat → Prop} {X : List Res} {p : Pl} {T T' : Nat → CTk} {V V' : Nat → Sv} {now id dem : Int} {s s' : QS}
theorem cFirstTask_c (H : St w0 S0 w (CpuL p T V now s ++ X)) {m : Nat} (hs : s.ok m) {a pr f : Int} (hF : FirstP s a pr f) :
    Calls Try.prog 62 #[.pointer (some ⟨p.c, 0, none⟩)] w fun e w' => e = .returned (.tuple #[.int .i64 a, .bool (f == 0)]) ∧ St w0 S0 w' (CpuL p T V now s ++ X) := by
  obtain ⟨b0, b1, b2, b3⟩ := cpu_box H
  have FO := Lib.hid (First_o (i := 3) H rfl hs a pr f hF)
  clear H hs hF
  go_enter Try.func62, Try.ntmps62
  go_wp2_with fail
  refine FO.out.mono ?_
  rintro e w2 ⟨rfl, s2⟩
  have S2 := Lib.hid s2
  clear FO s2
  go_wp2_with fail
  go_ret2
  exact ⟨rfl, S2.out⟩
/-- A server's budget goes on. -/
theorem cpu_bput {j : Nat} (hj : j < p.m) {w' : World} {N' : Int} {xs' : List Int} (h : St w0 S0 w' ((CpuL p T V now s ++ X).set (4 + j) (BudR (V j).bp (V j).B (V j).P N' xs'))) :
    St w0 S0 w' (CpuL p T (updK V j { V j with N := N', xs := xs' }) now s ++ X) := by
  obtain ⟨c, q, A, ca, n, E, ce, m⟩ := p
  dsimp only at hj
  have e : (CpuL ⟨c, q, A, ca, n, E, ce, m⟩ T V now s ++ X).set (4 + j) (BudR (V j).bp (V j).B (V j).P N' xs') = CpuL ⟨c, q, A, ca, n, E, ce, m⟩ T (updK V j { V j with N := N', xs := xs' }) now s ++ X := by
    rw [List.set_append_left _ _ (by simp [CpuL]; omega)]
    congr 1
    unfold CpuL
    rw [List.set_append_right _ _ (by simp)]
    have e1 : grid m 2 (svv (updK V j { V j with N := N', xs := xs' })) = grid m 2 (svv V) := grid_like fun i k hi hk => by
      unfold svv
      by_cases e : i = j
      · subst e; rw [updK_self]
      · rw [updK_ne V _ e]
    dsimp only
    rw [e1]
    congr 1
    apply List.ext_getElem?
    intro i
    simp only [List.length_cons, List.length_nil]
    by_cases e : i = j
    · subst e
      rw [show 4 + i - (0 + 1 + 1 + 1 + 1) = i by omega, List.getElem?_set_self (by simp; exact hj)]
      simp [hj, bdR, updK_self]
    · rw [show 4 + j - (0 + 1 + 1 + 1 + 1) = j by omega, List.getElem?_set_ne (Ne.symm e)]
      by_cases hi : i < m
      · simp [hi, bdR, updK_ne V _ e]
      · simp [hi]
  rwa [e] at h
end
end
section
set_option linter.unusedVariables false
set_option maxRecDepth 100000
set_option maxHeartbeats 2000000
/-- What holds of a server. -/
structure SvOK (now : Int) (v : Sv) : Prop where
  s : SOK v.B v.P
  x : v.xs.length ≤ v.B
  n : v.N ≤ now
  w0 : 0 ≤ v.work
  w1 : v.work ≤ 1048576
/-- A server that is served. -/
def serveS (v : Sv) (now : Int) : Sv := { v with work := v.work - 1, N := now, xs := useL v.B v.P now v.xs }
/-- A server that was looked at. -/
def seenS (v : Sv) (now : Int) : Sv := { v with N := now, xs := notBack now v.xs }
theorem updK_twice {α : Type} (T : Nat → α) (i : Nat) (t u : α) : updK (updK T i t) i u = updK T i u := by
  funext j; unfold updK; split <;> rfl
section
variable {w0 w : World} {S0 : Nat → Prop} {X : List Res} {p : Pl} {T T' : Nat → CTk} {V V' : Nat → Sv} {now id dem : Int} {s s' : QS}
theorem cServe_c (H : St w0 S0 w (CpuL p T V now s ++ X)) {j : Nat} (hj : j < p.m) (hv : SvOK now (V j)) (hw : 0 < (V j).work) (n0 : 0 ≤ now) (n1 : now < 4611686018427387904) :
    Calls Try.prog 58 #[.pointer (some ⟨p.c, 0, none⟩), .int .i64 (j : Int)] w fun e w' => e = .returned (.tuple #[]) ∧ St w0 S0 w' (CpuL p T (updK V j (serveS (V j) now)) now s ++ X) := by
  obtain ⟨b0, b1, b2, b3⟩ := cpu_box H
  obtain ⟨g, off, hA, c0, c1, hf⟩ := cpu_server H hj
  rw [hA] at b1
  have HA := Lib.hid hA
  have HH := Lib.hid H
  have v0 : (0 : Int) ≤ (j : Int) := by omega
  have v1 : (j : Int) < (p.m : Int) := by omega
  have hs := hv.s
  unfold SOK at hs
  have hx := hv.x
  have hN := hv.n
  have hw1 := hv.w1
  have UC := Lib.hid (bud_use H.drew (4 + j) (cpu_bud hj) (by omega) hx hN n1 n0 (by omega))
  have PUT := Lib.hid (fun (W : World) (K : St w0 S0 W ((CpuL p T V now s ++ X).set (4 + j) (BudR (V j).bp (V j).B (V j).P now (useL (V j).B (V j).P now (V j).xs)))) => cpu_bput hj K)
  have qq := And.intro c0 b3
  obtain ⟨y, hy⟩ : ∃ y, (V j).work = y := ⟨_, rfl⟩
  have HY := Lib.hid hy
  rw [hy] at c1 hw hw1
  have w1 : IntKind.u64.wrap (y - 1) = y - 1 := IntWalk.u64_in _ ⟨by omega, by omega⟩
  have GET := Lib.hid (fun (W : World) (V2 : Nat → Sv) (K : St w0 S0 W (CpuL p T V2 now s ++ X)) (h2 : (V2 j).bp = (V j).bp ∧ (V2 j).work = (V j).work) => show (W.cell? ⟨g, off + j * 2, none⟩ = some (.pointer (some ⟨(V j).bp, 0, none⟩)) ∧ W.cell? ⟨p.c, 3, none⟩ = some (.int .u64 now)) ∧ W.cell? ⟨g, off + j * 2 + 1, none⟩ = some (.int .u64 y) ∧ W.frozen? ⟨g, off + j * 2 + 1, none⟩ = false from by
    obtain ⟨g', off', hA', k0, k1, kf⟩ := cpu_server K hj
    obtain ⟨rfl, rfl⟩ : g = g' ∧ off = off' := by rw [hA] at hA'; simpa using hA'
    rw [h2.1] at k0
    rw [h2.2, hy] at k1
    exact ⟨⟨k0, (cpu_box K).2.2.2⟩, k1, kf _⟩)
  clear H hA hf hv hs hx hN hy b0 b2
  go_enter Try.func58, Try.ntmps58
  go_wp2_with fail
  go_region_held3 (fun w' => w'.cell? ⟨g, off + j * 2, none⟩ = some (.pointer (some ⟨(V j).bp, 0, none⟩)) ∧ w'.cell? ⟨p.c, 3, none⟩ = some (.int .u64 now)) (go_keep)
    (first
      | (go_at_call 72; refine UC.out.mono ?_; rintro r' w6 ⟨rfl, s6⟩; have S6 := Lib.hid (PUT.out w6 s6); have q5 := GET.out w6 _ S6.out ⟨by rw [updK_self], by rw [updK_self]⟩; have q6 := q5.1; clear s6))
  obtain ⟨q7, q8⟩ := q5.2
  have FIN := Lib.hid (show St w0 S0 _ (CpuL p T (updK V j (serveS (V j) now)) now s ++ X) from by
    have h := cpu_wset S6.out HA.out hj (y - 1)
    rw [updK_twice, updK_self] at h
    unfold serveS
    rw [HY.out]
    exact h)
  clear q5 q6 qq c0 c1 b1 b3 UC PUT GET
  go_wp2_with fail
  go_end0
  exact ⟨rfl, FIN.out⟩
/-- Can it serve? -/
def canS (v : Sv) (now : Int) : Prop := 0 < v.work ∧ ((notBack now v.xs).length : Int) < v.B
/-- The servers, once the first k were looked at. -/
def seenV (V : Nat → Sv) (now : Int) (k : Nat) : Nat → Sv := fun j => if j < k ∧ 0 < (V j).work then seenS (V j) now else V j
theorem seenV_zero (V : Nat → Sv) (now : Int) : seenV V now 0 = V := by funext j; unfold seenV; rw [if_neg (by omega)]
theorem seenV_idle {V : Nat → Sv} {now : Int} {k : Nat} (h : (V k).work = 0) : seenV V now (k + 1) = seenV V now k := by
  funext j
  unfold seenV
  by_cases e : j = k
  · subst e; rw [if_neg (by omega), if_neg (by omega)]
  · by_cases h2 : j < k ∧ 0 < (V j).work
    · rw [if_pos h2, if_pos ⟨by omega, h2.2⟩]
    · rw [if_neg h2, if_neg (by omega)]
theorem seenV_step {V : Nat → Sv} {now : Int} {k : Nat} (h : 0 < (V k).work) : updK (seenV V now k) k (seenS (V k) now) = seenV V now (k + 1) := by
  funext j
  unfold updK seenV
  by_cases e : j = k
  · subst e; rw [if_pos rfl, if_pos ⟨by omega, h⟩]
  · rw [if_neg e]
    by_cases h2 : j < k ∧ 0 < (V j).work
    · rw [if_pos h2, if_pos ⟨by omega, h2.2⟩]
    · rw [if_neg h2, if_neg (by omega)]
theorem seenV_at (V : Nat → Sv) (now : Int) (k : Nat) : seenV V now k k = V k := by unfold seenV; rw [if_neg (by omega)]
/-- The first server that can. -/
def FirstSv (m : Nat) (V : Nat → Sv) (now : Int) (a : Int) (b : Bool) (V' : Nat → Sv) : Prop :=
  (∃ k, k < m ∧ canS (V k) now ∧ (∀ j, j < k → ¬ canS (V j) now) ∧ a = 100 + (k : Int) ∧ b = true ∧ V' = seenV V now (k + 1)) ∨
  ((∀ j, j < m → ¬ canS (V j) now) ∧ a = 0 ∧ b = false ∧ V' = seenV V now m)
def FsvQ (w0 : World) (S0 : Nat → Prop) (X : List Res) (p : Pl) (T : Nat → CTk) (V : Nat → Sv) (now : Int) (s : QS) (e : Ending) (w' : World) : Prop := ∃ a b V', e = .returned (.tuple #[.int .i64 a, .bool b]) ∧ FirstSv p.m V now a b V' ∧ St w0 S0 w' (CpuL p T V' now s ++ X)
theorem cFirstServer_c (H : St w0 S0 w (CpuL p T V now s ++ X)) (hv : ∀ j, j < p.m → SvOK now (V j)) (hm : p.m ≤ 100) (n0 : 0 ≤ now) (n1 : now < 4611686018427387904) :
    Calls Try.prog 61 #[.pointer (some ⟨p.c, 0, none⟩)] w (FsvQ w0 S0 X p T V now s) := by
  obtain ⟨b0, b1, b2, b3⟩ := cpu_box H
  have HH := Lib.hid H
  have HV := Lib.hid hv
  clear H hv b0 b2 b3
  go_enter Try.func61, Try.ntmps61
  go_wp2_with fail
  go_loopw [13, 4, 5, 6, 7] (fun x13 x4 x5 x6 x7 wr => ∃ k : Nat, k ≤ p.m ∧ x13 = .int .i64 k ∧ (∀ j, j < k → ¬ canS (V j) now) ∧ St w0 S0 wr (CpuL p T (seenV V now k) now s ++ X)) (fun x _ _ _ _ _ => p.m - (intOf x).toNat)
  case atStart => exact ⟨0, by omega, rfl, fun j hj => by omega, by rw [seenV_zero]; exact HH.out⟩
  case round =>
  clear HH
  obtain ⟨k, hk, rfl, hno, sr⟩ := hrel
  have HNO := Lib.hid hno
  clear hno
  by_cases hlt : k < p.m
  · obtain ⟨g, off, hA, c0, c1, hf⟩ := cpu_server sr hlt
    rw [seenV_at] at c0 c1
    have hvk := HV.out k hlt
    have hs := hvk.s
    unfold SOK at hs
    have hx := hvk.x
    have hN := hvk.n
    have hw0 := hvk.w0
    have z0 : decide ((k : Int) < (p.m : Int)) = true := decide_eq_true (by omega)
    have z0' : decide (k < p.m) = true := decide_eq_true hlt
    have c2 := (cpu_box sr).2.2.2
    rw [hA]
    obtain ⟨y, hy⟩ : ∃ y, (V k).work = y := ⟨_, rfl⟩
    have HY := Lib.hid hy
    rw [hy] at c1 hw0
    have s2 := sr.box 81 #[.pointer (some ⟨(V k).bp, 0, none⟩), .int .u64 y]
    obtain ⟨h, hh⟩ : ∃ h, wr.heap.size = h := ⟨_, rfl⟩
    rw [hh] at s2
    rw [List.append_assoc] at s2
    have S2 := Lib.hid s2
    have hbx := Lib.hid (fun (W : World) (V2 : Nat → Sv) (K : St w0 S0 W (CpuL p T V2 now s ++ (X ++ [BlkR h 81 #[.pointer (some ⟨(V k).bp, 0, none⟩), .int .u64 y]]))) => show (W.cell? ⟨h, 0, none⟩ = some (.pointer (some ⟨(V k).bp, 0, none⟩)) ∧ W.cell? ⟨p.c, 3, none⟩ = some (.int .u64 now)) ∧ W.cell? ⟨h, 1, none⟩ = some (.int .u64 y) from by
      have hi : (CpuL p T V2 now s ++ (X ++ [BlkR h 81 #[.pointer (some ⟨(V k).bp, 0, none⟩), .int .u64 y]]))[(CpuL p T V2 now s).length + X.length]? = some (BlkR h 81 #[.pointer (some ⟨(V k).bp, 0, none⟩), .int .u64 y]) := by
        rw [List.getElem?_append_right (by omega), List.getElem?_append_right (by omega)]; simp
      have hb := (K.blk _ hi).two
      exact ⟨⟨hb.1, (cpu_box K).2.2.2⟩, hb.2⟩)
    have TAKE := Lib.hid (fun (W : World) (V2 : Nat → Sv) (K : St w0 S0 W (CpuL p T V2 now s ++ (X ++ [BlkR h 81 #[.pointer (some ⟨(V k).bp, 0, none⟩), .int .u64 y]]))) => show St w0 S0 W (CpuL p T V2 now s ++ X) from by
      rw [← List.append_assoc] at K
      have := K.take (CpuL p T V2 now s ++ X).length
      rwa [List.take_left] at this)
    obtain ⟨⟨k0, k2⟩, k1⟩ := hbx.out _ _ s2
    have LC := Lib.hid (fun (W : World) (K : St w0 S0 W (CpuL p T (seenV V now k) now s ++ (X ++ [BlkR h 81 #[.pointer (some ⟨(V k).bp, 0, none⟩), .int .u64 y]]))) => bud_left K (b := (V k).bp) (B := (V k).B) (P := (V k).P) (N := (V k).N) (xs := (V k).xs) (4 + k) (by have := cpu_bud (T := T) (V := seenV V now k) (now := now) (s := s) (X := X ++ [BlkR h 81 #[.pointer (some ⟨(V k).bp, 0, none⟩), .int .u64 y]]) hlt; unfold bdR at this; rw [seenV_at] at this; exact this) (by omega) hx hN n1)
    have PUT := Lib.hid (fun (W : World) (hw : 0 < (V k).work) (K : St w0 S0 W ((CpuL p T (seenV V now k) now s ++ (X ++ [BlkR h 81 #[.pointer (some ⟨(V k).bp, 0, none⟩), .int .u64 y]])).set (4 + k) (BudR (V k).bp (V k).B (V k).P now (notBack now (V k).xs)))) => show St w0 S0 W (CpuL p T (seenV V now (k + 1)) now s ++ (X ++ [BlkR h 81 #[.pointer (some ⟨(V k).bp, 0, none⟩), .int .u64 y]])) from by
      rw [← seenV_step hw]
      have h2 := cpu_bput (V := seenV V now k) (N' := now) (xs' := notBack now (V k).xs) hlt (by rw [seenV_at]; exact K)
      rw [seenV_at] at h2
      exact h2)
    clear sr s2 hf hA hvk hy
    go_upto_region 4 with (fail)
    generalize wr.alloc (.cells #[.pointer (some ⟨(V k).bp, 0, none⟩), .int .u64 y] 81) = wq at *
    by_cases hy0 : y = 0
    · subst hy0
      have SR := Lib.hid (TAKE.out _ _ S2.out)
      have NO2 := Lib.hid (show ∀ j, j < k + 1 → ¬ canS (V j) now from fun j hj => by
        rcases Nat.lt_or_ge j k with h1 | h1
        · exact HNO.out j h1
        · obtain rfl : j = k := by omega
          intro hc
          have := hc.1
          rw [HY.out] at this; omega)
      have EQ := Lib.hid (seenV_idle (V := V) (now := now) HY.out)
      clear k0 c0 c1 c2 LC PUT TAKE hbx S2
      go_wp2_with fail
      go_roundw
      case rel => exact ⟨k + 1, by omega, by go_num, NO2.out, by rw [EQ.out]; exact SR.out⟩
      case measure => simp [intOf]; omega
    · have y1 : (y == 0) = false := beq_eq_false_iff_ne.2 hy0
      have HW := Lib.hid (show 0 < (V k).work by rw [HY.out]; omega)
      have qq := And.intro k0 k2
      clear c0 c1 c2
      go_wp2_with fail
      go_region_held3 (fun w' => w'.cell? ⟨h, 0, none⟩ = some (.pointer (some ⟨(V k).bp, 0, none⟩)) ∧ w'.cell? ⟨p.c, 3, none⟩ = some (.int .u64 now)) (go_keep)
        (first
          | (go_at_call 74; refine (LC.out _ S2.out.drew).mono ?_; rintro r' w6 ⟨rfl, s6⟩; have S6 := Lib.hid (PUT.out w6 HW.out s6); have q6 := (hbx.out w6 _ S6.out).1; clear s6))
      have SR := Lib.hid (TAKE.out _ _ S6.out)
      clear k0 k1 k2 qq q6 S2 S6 LC PUT TAKE hbx
      by_cases hc : ((notBack now (V k).xs).length : Int) < (V k).B
      · have y2 : decide (0 < (V k).B - ((notBack now (V k).xs).length : Int)) = true := decide_eq_true (by omega)
        have y3 : decide (((notBack now (V k).xs).length : Int) < (V k).B) = true := decide_eq_true hc
        have w1 : IntKind.i64.wrap (100 + (k : Int)) = 100 + (k : Int) := IntWalk.i64_in _ ⟨by omega, by omega⟩
        have HC := Lib.hid hc
        clear hc
        go_wp2_with fail
        go_ret2
        exact ⟨_, _, _, rfl, Or.inl ⟨k, hlt, ⟨HW.out, HC.out⟩, HNO.out, rfl, rfl, rfl⟩, SR.out⟩
      · have y2 : decide (0 < (V k).B - ((notBack now (V k).xs).length : Int)) = false := decide_eq_false (by omega)
        have y3 : decide (((notBack now (V k).xs).length : Int) < (V k).B) = false := decide_eq_false hc
        have NO2 := Lib.hid (show ∀ j, j < k + 1 → ¬ canS (V j) now from fun j hj => by
          rcases Nat.lt_or_ge j k with h1 | h1
          · exact HNO.out j h1
          · obtain rfl : j = k := by omega
            intro h2
            exact hc h2.2)
        clear hc
        go_wp2_with fail
        go_roundw
        case rel => exact ⟨k + 1, by omega, by go_num, NO2.out, SR.out⟩
        case measure => simp [intOf]; omega
  · obtain rfl : k = p.m := by omega
    have z0 : decide ((p.m : Int) < (p.m : Int)) = false := decide_eq_false (by omega)
    have SR := Lib.hid sr
    clear sr hlt
    go_wp2_with fail
    go_ret2
    exact ⟨0, false, _, rfl, Or.inr ⟨HNO.out, rfl, rfl, rfl⟩, SR.out⟩
end
end
section
set_option linter.unusedVariables false
set_option maxRecDepth 100000
set_option maxHeartbeats 2000000
/-- Who runs. -/
def WhoP (m : Nat) (V : Nat → Sv) (now : Int) (s : QS) (a : Int) (V' : Nat → Sv) : Prop :=
  (∃ k, k < m ∧ canS (V k) now ∧ (∀ j, j < k → ¬ canS (V j) now) ∧ a = 100 + (k : Int) ∧ V' = seenV V now (k + 1)) ∨
  ((∀ j, j < m → ¬ canS (V j) now) ∧ V' = seenV V now m ∧ ((∃ x t, s.all = x :: t ∧ a = (x.1 : Int)) ∨ (s.all = [] ∧ a = -1)))
def WhoQ (w0 : World) (S0 : Nat → Prop) (X : List Res) (p : Pl) (T : Nat → CTk) (V : Nat → Sv) (now : Int) (s : QS) (e : Ending) (w' : World) : Prop := ∃ a V', e = .returned (.int .i64 a) ∧ WhoP p.m V now s a V' ∧ St w0 S0 w' (CpuL p T V' now s ++ X)
section
variable {w0 w : World} {S0 : Nat → Prop} {X : List Res} {p : Pl} {T T' : Nat → CTk} {V V' : Nat → Sv} {now id dem : Int} {s s' : QS}
theorem cWho_c (H : St w0 S0 w (CpuL p T V now s ++ X)) (hv : ∀ j, j < p.m → SvOK now (V j)) (hm : p.m ≤ 100) (n0 : 0 ≤ now) (n1 : now < 4611686018427387904) {q : Nat} (hs : s.ok q) :
    Calls Try.prog 31 #[.pointer (some ⟨p.c, 0, none⟩)] w (WhoQ w0 S0 X p T V now s) := by
  have s2 := H.box 129 #[.func (Fn.func 61) #[.pointer (some ⟨p.c, 0, none⟩)] #[], .func (Fn.func 62) #[.pointer (some ⟨p.c, 0, none⟩)] #[]]
  rw [List.append_assoc] at s2
  obtain ⟨h, hh⟩ : ∃ h, w.heap.size = h := ⟨_, rfl⟩
  rw [hh] at s2
  have S2 := Lib.hid s2
  have BX := Lib.hid (fun (W : World) (V2 : Nat → Sv) (K : St w0 S0 W (CpuL p T V2 now s ++ (X ++ [BlkR h 129 #[.func (Fn.func 61) #[.pointer (some ⟨p.c, 0, none⟩)] #[], .func (Fn.func 62) #[.pointer (some ⟨p.c, 0, none⟩)] #[]]]))) => show (W.cell? ⟨h, 0, none⟩ = some (.func (Fn.func 61) #[.pointer (some ⟨p.c, 0, none⟩)] #[]) ∧ W.cell? ⟨h, 1, none⟩ = some (.func (Fn.func 62) #[.pointer (some ⟨p.c, 0, none⟩)] #[])) ∧ St w0 S0 W (CpuL p T V2 now s ++ X) from by
    have hi : (CpuL p T V2 now s ++ (X ++ [BlkR h 129 #[.func (Fn.func 61) #[.pointer (some ⟨p.c, 0, none⟩)] #[], .func (Fn.func 62) #[.pointer (some ⟨p.c, 0, none⟩)] #[]]]))[(CpuL p T V2 now s).length + X.length]? = some (BlkR h 129 #[.func (Fn.func 61) #[.pointer (some ⟨p.c, 0, none⟩)] #[], .func (Fn.func 62) #[.pointer (some ⟨p.c, 0, none⟩)] #[]]) := by
      rw [List.getElem?_append_right (by omega), List.getElem?_append_right (by omega)]; simp
    refine ⟨(K.blk _ hi).two, ?_⟩
    rw [← List.append_assoc] at K
    have := K.take (CpuL p T V2 now s ++ X).length
    rwa [List.take_left] at this)
  have HV := Lib.hid hv
  have HS := Lib.hid hs
  clear H hv hs s2
  go_enter Try.func31, Try.ntmps31
  go_wp2_with fail
  go_loopw [13, 4, 5, 6] (fun x13 x4 x5 x6 wr => (x13 = .int .i64 0 ∧ St w0 S0 wr (CpuL p T V now s ++ (X ++ [BlkR h 129 #[.func (Fn.func 61) #[.pointer (some ⟨p.c, 0, none⟩)] #[], .func (Fn.func 62) #[.pointer (some ⟨p.c, 0, none⟩)] #[]]]))) ∨ (x13 = .int .i64 1 ∧ (∀ j, j < p.m → ¬ canS (V j) now) ∧ St w0 S0 wr (CpuL p T (seenV V now p.m) now s ++ (X ++ [BlkR h 129 #[.func (Fn.func 61) #[.pointer (some ⟨p.c, 0, none⟩)] #[], .func (Fn.func 62) #[.pointer (some ⟨p.c, 0, none⟩)] #[]]]))) ∨ (x13 = .int .i64 2 ∧ (∀ j, j < p.m → ¬ canS (V j) now) ∧ s.all = [] ∧ St w0 S0 wr (CpuL p T (seenV V now p.m) now s ++ (X ++ [BlkR h 129 #[.func (Fn.func 61) #[.pointer (some ⟨p.c, 0, none⟩)] #[], .func (Fn.func 62) #[.pointer (some ⟨p.c, 0, none⟩)] #[]]])))) (fun x _ _ _ _ => 2 - (intOf x).toNat)
  case atStart => exact Or.inl ⟨rfl, S2.out⟩
  case round =>
  clear S2 hh
  rcases hrel with ⟨rfl, sr⟩ | ⟨rfl, hno, sr⟩ | ⟨rfl, hno, hall, sr⟩
  · obtain ⟨⟨k0, k1⟩, -⟩ := BX.out _ _ sr
    have FS := Lib.hid (cFirstServer_c sr HV.out hm n0 n1)
    clear sr
    go_wp2_with fail
    refine FS.out.mono ?_
    rintro e w2 ⟨a, b, V', rfl, hF, s2⟩
    clear FS k0 k1
    rcases hF with ⟨k, hk, hc, hn, rfl, rfl, rfl⟩ | ⟨hn, rfl, rfl, rfl⟩
    · have SR := Lib.hid (BX.out _ _ s2).2
      have HW := Lib.hid (show WhoP p.m V now s (100 + (k : Int)) (seenV V now (k + 1)) from Or.inl ⟨k, hk, hc, hn, rfl, rfl⟩)
      clear s2 hc hn BX
      go_wp2_with fail
      go_ret
      exact ⟨_, _, rfl, HW.out, SR.out⟩
    · have SR := Lib.hid s2
      have HN := Lib.hid hn
      clear s2 hn
      go_wp2_with fail
      go_roundw
      case rel => exact Or.inr (Or.inl ⟨rfl, HN.out, SR.out⟩)
      case measure => simp [intOf]
  · obtain ⟨⟨k0, k1⟩, -⟩ := BX.out _ _ sr
    obtain ⟨a, pr, f, hP⟩ := firstP_ex s
    have FT := Lib.hid (cFirstTask_c sr HS.out hP)
    have HN := Lib.hid hno
    clear sr hno
    go_wp2_with fail
    refine FT.out.mono ?_
    rintro e w2 ⟨rfl, s2⟩
    clear FT k0 k1
    rcases hP with ⟨ha, rfl, rfl, rfl⟩ | ⟨x, t, ha, rfl, rfl, rfl⟩
    · have SR := Lib.hid s2
      have HA := Lib.hid ha
      clear s2 ha
      go_wp2_with fail
      go_roundw
      case rel => exact Or.inr (Or.inr ⟨rfl, HN.out, HA.out, SR.out⟩)
      case measure => simp [intOf]
    · have SR := Lib.hid (BX.out _ _ s2).2
      have HW := Lib.hid (show WhoP p.m V now s (x.1 : Int) (seenV V now p.m) from Or.inr ⟨HN.out, rfl, Or.inl ⟨x, t, ha, rfl⟩⟩)
      clear s2 ha BX HN
      go_wp2_with fail
      go_ret
      exact ⟨_, _, rfl, HW.out, SR.out⟩
  · have SR := Lib.hid (BX.out _ _ sr).2
    have HW := Lib.hid (show WhoP p.m V now s (-1) (seenV V now p.m) from Or.inr ⟨hno, rfl, Or.inr ⟨hall, rfl⟩⟩)
    clear sr hno hall BX
    go_wp2_with fail
    go_ret
    exact ⟨_, _, rfl, HW.out, SR.out⟩
end
end
section
set_option linter.unusedVariables false
set_option maxRecDepth 100000
set_option maxHeartbeats 2000000
theorem YtdemhhmceiaohaaiInt : (Try.prog.info? 3).map (fun i => (i.zero, i.size, i.bytes)) = some (some (.int .i64 0), 1, 8) := by kernel_rfl
theorem info3c {P : Program} {t : TypeId} {z : Value} {s b : Nat} (h : (P.info? t).map (fun i => (i.zero, i.size, i.bytes)) = some (some z, s, b)) : ∃ i, P.info? t = some i ∧ i.zero = some z ∧ i.size = s ∧ i.bytes = b := by
  cases hi : P.info? t with
  | none => rw [hi] at h; cases h
  | some i => rw [hi] at h; simp at h; exact ⟨i, rfl, h.1, h.2.1, h.2.2⟩
/-- Whose time comes. -/
def misB (T : Nat → CTk) (now : Int) (j : Nat) : Bool := (T j).there && ((T j).unt == now)
def misL (T : Nat → CTk) (now : Int) (n : Nat) : List Nat := (List.range n).filter (misB T now)
theorem misL_succ (T : Nat → CTk) (now : Int) (n : Nat) : misL T now (n + 1) = misL T now n ++ (if misB T now n = true then [n] else []) := by
  unfold misL
  rw [List.range_succ, List.filter_append]
  congr 1
  cases h : misB T now n <;> simp [List.filter, h]
theorem misL_le (T : Nat → CTk) (now : Int) (n : Nat) : (misL T now n).length ≤ n := by
  unfold misL; exact Nat.le_trans (List.length_filter_le _ _) (by simp)
def MisQ (w0 : World) (S0 : Nat → Prop) (X : List Res) (p : Pl) (T : Nat → CTk) (V : Nat → Sv) (now : Int) (s : QS) (e : Ending) (w' : World) : Prop := ∃ B cb, e = .returned (.slice B (misL T now p.n).length cb) ∧ St w0 S0 w' ((CpuL p T V now s ++ X) ++ [LisR 3 1 (.slice B (misL T now p.n).length cb) (misL T now p.n).length (ivs (misL T now p.n))])
section
variable {w0 w : World} {S0 : Nat → Prop} {X : List Res} {p : Pl} {T T' : Nat → CTk} {V V' : Nat → Sv} {now id dem : Int} {s s' : QS}
theorem cMissed_c (H : St w0 S0 w (CpuL p T V now s ++ X)) (hn : p.n ≤ 1000) :
    Calls Try.prog 60 #[.pointer (some ⟨p.c, 0, none⟩)] w (MisQ w0 S0 X p T V now s) := by
  obtain ⟨iI, hiI, hzI, hsI, hbI⟩ := info3c YtdemhhmceiaohaaiInt
  obtain ⟨b0, b1, b2, b3⟩ := cpu_box H
  have HH := Lib.hid (show St w0 S0 w ([LisR 3 1 (.slice none 0 0) 0 (ivs [])] ++ (CpuL p T V now s ++ X)) from (H.lis_nil 3 1).comm)
  have BK := Lib.hid (fun (W : World) (R : Res) (K : St w0 S0 W ([R] ++ (CpuL p T V now s ++ X))) => show St w0 S0 W (CpuL p T V now s ++ (X ++ [R])) from by
    have := K.comm
    rwa [List.append_assoc] at this)
  clear H b1 b2 b3
  go_enter Try.func60, Try.ntmps60
  go_wp2_with fail
  go_loopw [11, 3, 4, 5] (fun x11 x3 x4 x5 wr => ∃ (k : Nat) (B : Option Addr) (q cb : Nat), k ≤ p.n ∧ x11 = .int .i64 k ∧ x3 = .slice B q cb ∧ (misL T now k).length = q ∧ St w0 S0 wr ([LisR 3 1 (.slice B q cb) q (ivs (misL T now k))] ++ (CpuL p T V now s ++ X))) (fun x _ _ _ _ => p.n - (intOf x).toNat)
  case atStart => exact ⟨0, none, 0, 0, by omega, rfl, rfl, rfl, HH.out⟩
  case round =>
  clear HH
  obtain ⟨k, B, q, cb, hk, rfl, rfl, hq, sr⟩ := hrel
  have HQ := Lib.hid hq
  have hqk : q ≤ k := by rw [← hq]; exact misL_le T now k
  clear hq
  by_cases hlt : k < p.n
  · obtain ⟨g, off, hA, hc, hf⟩ := cpu_task (BK.out _ _ sr) hlt
    have c0 := hc 0 (by omega)
    have c1 := hc 1 (by omega)
    have c2 := hc 2 (by omega)
    have c3 := hc 3 (by omega)
    have c4 := hc 4 (by omega)
    have c5 := hc 5 (by omega)
    have c6 := hc 6 (by omega)
    have c7 := hc 7 (by omega)
    have c8 := hc 8 (by omega)
    have c9 := hc 9 (by omega)
    rw [Nat.add_zero (off + k * 10)] at c0
    unfold tkv at c0 c1 c2 c3 c4 c5 c6 c7 c8 c9
    rw [hA]
    have z0 : decide ((k : Int) < (p.n : Int)) = true := decide_eq_true (by omega)
    have z0' : decide (k < p.n) = true := decide_eq_true hlt
    have s2 := (sr.box 76 #[.int .i64 (T k).prio, .int .u64 (T k).cost, .int .u64 (T k).per, .int .u64 (T k).dead, .bool (T k).began, .int .u64 (T k).rel, .bool (T k).there, .int .u64 (T k).dem, .int .u64 (T k).ran, .int .u64 (T k).unt]).comm
    obtain ⟨h, hh⟩ : ∃ h, wr.heap.size = h := ⟨_, rfl⟩
    rw [hh] at s2
    have S2 := Lib.hid s2
    have hb := s2.blk 0 rfl
    have k6 : _ = some (Value.bool (T k).there) := (hb.cell 6).trans (by simp)
    have k9 : _ = some (Value.int .u64 (T k).unt) := (hb.cell 9).trans (by simp)
    have k3 := (cpu_box (BK.out _ _ (s2.drop 0 (by simp)))).2.2.2
    clear sr s2 hb hf hA hc
    go_upto_region 5 with (fail)
    generalize wr.alloc (.cells #[.int .i64 (T k).prio, .int .u64 (T k).cost, .int .u64 (T k).per, .int .u64 (T k).dead, .bool (T k).began, .int .u64 (T k).rel, .bool (T k).there, .int .u64 (T k).dem, .int .u64 (T k).ran, .int .u64 (T k).unt] 76) = wq at *
    clear c0 c1 c2 c3 c4 c5 c6 c7 c8 c9
    have MS := Lib.hid (misL_succ T now k)
    have HB := Lib.hid (show misB T now k = ((T k).there && ((T k).unt == now)) from rfl)
    generalize (T k).there = th at *
    generalize (T k).unt = un at *
    cases th with
    | false =>
      have EQ := Lib.hid (show misL T now (k + 1) = misL T now k by rw [MS.out, HB.out, if_neg (by simp), List.append_nil])
      clear MS HB
      go_wp2_with fail
      go_quiet (fail)
      have SR := Lib.hid ((S2.out.drop 0 (by simp)).drewN nq)
      clear k3 k6 k9 S2
      generalize wq.drewN nq = wz at *
      go_wp2_with fail
      go_roundw
      case rel => exact ⟨k + 1, B, q, cb, by omega, by go_num, rfl, by rw [EQ.out]; exact HQ.out, by rw [EQ.out]; exact SR.out⟩
      case measure => simp [intOf]; omega
    | true =>
      by_cases hu : un = now
      · subst hu
        have EQ := Lib.hid (show misL T un (k + 1) = misL T un k ++ [k] by rw [MS.out, HB.out, if_pos (by simp)])
        have y1 : (un == un) = true := by simp
        clear MS HB
        go_wp2_with fail
        go_quiet (fail)
        have sz := (S2.out.drop 0 (by simp)).drewN nq
        clear k3 k6 k9 S2
        generalize wq.drewN nq = wz at *
        have s3 := (sz.lis_new 3 1 1 #[.int .i64 (k : Int)] rfl (by unfold maxLen; omega)).comm
        obtain ⟨h3, hh3⟩ : ∃ h, wz.heap.size = h := ⟨_, rfl⟩
        rw [hh3] at s3
        have HL := Lib.hid (s3.lis 1 rfl)
        have HR := Lib.hid (s3.lis 0 rfl).reads
        have S3 := Lib.hid s3
        clear sz s3
        go_wp2_with (at_builtin; refine wpList_lis rfl (.tmp 27) (.tmp 29) 39 rfl 3 iI (.int .i64 0) 1 8 Try.underlying39 hiI hzI hsI hbI rfl (by decide) _ _ _ rfl HL.out (some ⟨h3, 0, none⟩) 1 1 [.int .i64 (k : Int)] rfl HR.out (by simp [Value.oneCell']) (by unfold maxLen; omega) (by omega) ?_; intro D cD w6 hl hg hat; have t6 := (S3.out.lis_put 1 rfl hl hg hat).drop 0 (by simp); have S6 := Lib.hid t6; clear hl hg hat t6)
        go_roundw
        case rel => exact ⟨k + 1, D, q + 1, cD, by omega, by go_num, rfl, by rw [EQ.out, List.length_append, HQ.out]; rfl, by rw [EQ.out, ivs_app]; exact S6.out⟩
        case measure => simp [intOf]; omega
      · have y1 : (un == now) = false := beq_eq_false_iff_ne.2 hu
        have EQ := Lib.hid (show misL T now (k + 1) = misL T now k by rw [MS.out, HB.out, if_neg (by simp [hu]), List.append_nil])
        clear MS HB
        go_wp2_with fail
        go_quiet (fail)
        have SR := Lib.hid ((S2.out.drop 0 (by simp)).drewN nq)
        clear k3 k6 k9 S2
        generalize wq.drewN nq = wz at *
        go_wp2_with fail
        go_roundw
        case rel => exact ⟨k + 1, B, q, cb, by omega, by go_num, rfl, by rw [EQ.out]; exact HQ.out, by rw [EQ.out]; exact SR.out⟩
        case measure => simp [intOf]; omega
  · obtain rfl : k = p.n := by omega
    have z0 : decide ((p.n : Int) < (p.n : Int)) = false := decide_eq_false (by omega)
    have SR := Lib.hid (show St w0 S0 wr ((CpuL p T V now s ++ X) ++ [LisR 3 1 (.slice B (misL T now p.n).length cb) (misL T now p.n).length (ivs (misL T now p.n))]) from by rw [HQ.out]; exact sr.comm)
    clear sr hlt
    go_wp2_with fail
    go_ret
    exact ⟨B, cb, by rw [HQ.out]; rfl, SR.out⟩
end
end
section
set_option linter.unusedVariables false
set_option maxRecDepth 100000
set_option maxHeartbeats 2000000
/-- A job that ran one tick more. -/
def overT (t : CTk) : Bool := (t.ran + 1 == t.dem) || (t.ran + 1 == t.cost)
def runT (t : CTk) : CTk := { t with ran := t.ran + 1, there := t.there && !(overT t) }
def doneL (t : CTk) (j : Nat) : List Nat := if t.ran + 1 = t.dem then [j] else []
def cutL (t : CTk) (j : Nat) : List Nat := if t.ran + 1 ≠ t.dem ∧ t.ran + 1 = t.cost then [j] else []
def RunQ (w0 : World) (S0 : Nat → Prop) (X : List Res) (p : Pl) (T : Nat → CTk) (V : Nat → Sv) (now : Int) (s : QS) (ld lc : List Nat) (e : Ending) (w' : World) : Prop := ∃ D nd cd C nc cc, e = .returned (.tuple #[.slice D nd cd, .slice C nc cc]) ∧ ld.length = nd ∧ lc.length = nc ∧ St w0 S0 w' ([LisR 3 1 (.slice D nd cd) nd (ivs ld), LisR 3 1 (.slice C nc cc) nc (ivs lc)] ++ (CpuL p T V now s ++ X))
section
variable {w0 w : World} {S0 : Nat → Prop} {X : List Res} {p : Pl} {T T' : Nat → CTk} {V V' : Nat → Sv} {now id dem : Int} {s s' : QS}
theorem nil2 (H : St w0 S0 w (CpuL p T V now s ++ X)) : St w0 S0 w ([LisR 3 1 (.slice none 0 0) 0 (ivs []), LisR 3 1 (.slice none 0 0) 0 (ivs [])] ++ (CpuL p T V now s ++ X)) := by
  have h := ((H.lis_nil 3 1).lis_nil 3 1)
  rw [List.append_assoc] at h
  exact h.comm
theorem cRun_c (H : St w0 S0 w (CpuL p T V now s ++ X)) {j : Nat} (hj : j < p.n) (ht : (T j).there = true) (r0 : 0 ≤ (T j).ran) (r1 : (T j).ran < 9223372036854775807) {q : Nat} (hs : s.ok q) {f : Int} (hG : GoP s (j : Int) f s') :
    Calls Try.prog 59 #[.pointer (some ⟨p.c, 0, none⟩), .int .i64 (j : Int)] w (RunQ w0 S0 X p (updK T j (runT (T j))) V now (if overT (T j) = true then s' else s) (doneL (T j) j) (cutL (T j) j)) := by
  obtain ⟨b0, b1, b2, b3⟩ := cpu_box H
  obtain ⟨g, off, hA, hc, hfr⟩ := cpu_task H hj
  have c8 := hc 8 (by omega)
  unfold tkv at c8
  have f8 := hfr (off + j * 10 + 8)
  rw [hA] at b0
  have HA := Lib.hid hA
  have v0 : (0 : Int) ≤ (j : Int) := by omega
  have v1 : (j : Int) < (p.n : Int) := by omega
  obtain ⟨x, hx⟩ : ∃ x, (T j).ran = x := ⟨_, rfl⟩
  have HX := Lib.hid hx
  rw [hx] at c8 r0 r1
  have w1 : IntKind.u64.wrap (x + 1) = x + 1 := IntWalk.u64_in _ ⟨by omega, by omega⟩
  have s1 := cpu_set H hA hj (show 8 < 10 by omega) (.int .u64 (x + 1)) { T j with ran := x + 1 } (fun k hk => by
    unfold tkv
    rw [updK_self]
    rcases (show k = 0 ∨ k = 1 ∨ k = 2 ∨ k = 3 ∨ k = 4 ∨ k = 5 ∨ k = 6 ∨ k = 7 ∨ k = 8 ∨ k = 9 by omega) with rfl | rfl | rfl | rfl | rfl | rfl | rfl | rfl | rfl | rfl <;> rfl)
  have S1 := Lib.hid s1
  obtain ⟨sF, hsF⟩ : ∃ z, (if overT (T j) = true then s' else s) = z := ⟨_, rfl⟩
  obtain ⟨ld, hld0⟩ : ∃ z, doneL (T j) j = z := ⟨_, rfl⟩
  obtain ⟨lc, hlc0⟩ : ∃ z, cutL (T j) j = z := ⟨_, rfl⟩
  rw [hsF, hld0, hlc0]
  have HSF := Lib.hid hsF
  have HLD := Lib.hid hld0
  have HLC := Lib.hid hlc0
  clear H hA hc hfr hx b1 b3 s1 b2 hsF hld0 hlc0
  go_enter Try.func59, Try.ntmps59
  go_upto_region 3 with (fail)
  generalize w.setCell ⟨g, off + j * 10 + 8, none⟩ (.int .u64 (x + 1)) = wq at *
  clear c8 f8 b0
  obtain ⟨b0, b1, b2, b3⟩ := cpu_box S1.out
  obtain ⟨g', off', hA', hc, hfr⟩ := cpu_task S1.out hj
  obtain ⟨rfl, rfl⟩ : g = g' ∧ off = off' := by rw [HA.out] at hA'; simpa using hA'
  have c1 : wq.cell? ⟨g, off + j * 10 + 1, none⟩ = some (.int .u64 (T j).cost) := by have h := hc 1 (by omega); unfold tkv at h; rw [updK_self] at h; exact h
  have c6 : wq.cell? ⟨g, off + j * 10 + 6, none⟩ = some (.bool (T j).there) := by have h := hc 6 (by omega); unfold tkv at h; rw [updK_self] at h; exact h
  have c7 : wq.cell? ⟨g, off + j * 10 + 7, none⟩ = some (.int .u64 (T j).dem) := by have h := hc 7 (by omega); unfold tkv at h; rw [updK_self] at h; exact h
  have c8 : wq.cell? ⟨g, off + j * 10 + 8, none⟩ = some (.int .u64 (x + 1)) := by have h := hc 8 (by omega); unfold tkv at h; rw [updK_self] at h; exact h
  rw [hA'] at b0
  by_cases hd : x + 1 = (T j).dem
  · have y1 : ((x + 1) == (T j).dem) = true := beq_iff_eq.2 hd
    have hov : overT (T j) = true := by unfold overT; rw [HX.out]; simp [hd]
    have hrun : ({ ({ T j with ran := x + 1 } : CTk) with there := false } : CTk) = runT (T j) := by unfold runT; rw [HX.out, ht, hov]; rfl
    have hld : doneL (T j) j = [j] := by unfold doneL; rw [HX.out]; exact if_pos hd
    have hlc : cutL (T j) j = [] := by unfold cutL; rw [HX.out]; exact if_neg fun h => h.1 hd
    have HR := Lib.hid hrun
    obtain rfl : sF = s' := by rw [← HSF.out, hov, if_pos rfl]
    obtain rfl := HLD.out.symm.trans hld
    obtain rfl := HLC.out.symm.trans hlc
    have s2 := S1.out.lis_new 3 1 1 #[.int .i64 (j : Int)] rfl (by unfold maxLen; omega)
    rw [List.append_assoc] at s2
    obtain ⟨hb, hh⟩ : ∃ hb, wq.heap.size = hb := ⟨_, rfl⟩
    rw [hh] at s2
    obtain ⟨d0, d1, d2, d3⟩ := cpu_box s2
    obtain ⟨g', off', hA2, hc2, hfr2⟩ := cpu_task s2 hj
    obtain ⟨rfl, rfl⟩ : g = g' ∧ off = off' := by rw [HA.out] at hA2; simpa using hA2
    have e6 := hc2 6 (by omega)
    have e6f := hfr2 (off + j * 10 + 6)
    have s3 := cpu_set s2 HA.out hj (show 6 < 10 by omega) (.bool false) { ({ T j with ran := x + 1 } : CTk) with there := false } (fun k hk => by
      unfold tkv
      rw [updK_self, updK_self]
      rcases (show k = 0 ∨ k = 1 ∨ k = 2 ∨ k = 3 ∨ k = 4 ∨ k = 5 ∨ k = 6 ∨ k = 7 ∨ k = 8 ∨ k = 9 by omega) with rfl | rfl | rfl | rfl | rfl | rfl | rfl | rfl | rfl | rfl <;> rfl)
    rw [updK_twice, HR.out] at s3
    have S3 := Lib.hid s3
    have HS := Lib.hid hs
    have HG := Lib.hid hG
    unfold tkv at e6
    rw [updK_self] at e6
    clear s2 s3 hc hfr hc2 hfr2 hA2 hA' hov hld hlc hrun S1 d0 d1 d3 hs hG
    go_upto_region 9 with (fail)
    generalize hz : wq.alloc (.cells #[.int .i64 (j : Int)] 3) = wz at *
    clear b0 b1 b2 b3 c1 c6 c7 c8 hz hh
    go_upto_region 10 with (fail)
    generalize wz.setCell ⟨g, off + j * 10 + 6, none⟩ (.bool false) = wy at *
    obtain ⟨d0, d1, d2, d3⟩ := cpu_box S3.out
    clear d0 d1 d3 e6 e6f
    go_wp2_with fail
    refine (Go_o (i := 3) S3.out rfl HS.out (j : Int) f HG.out).mono ?_
    rintro e w6 ⟨rfl, s6⟩
    have s6 : St w0 S0 w6 (CpuL p (updK T j (runT (T j))) V now sF ++ (X ++ [_])) := s6
    have S6 := Lib.hid s6
    clear s6 S3
    go_wp2_with fail
    go_ret2
    have s7 := S6.out
    rw [← List.append_assoc] at s7
    have s8 := s7.lis_nil 3 1
    rw [List.append_assoc] at s8
    exact ⟨some ⟨hb, 0, none⟩, 1, 1, none, 0, 0, rfl, rfl, rfl, s8.comm⟩
  have y1 : ((x + 1) == (T j).dem) = false := beq_eq_false_iff_ne.2 hd
  by_cases hcst : x + 1 = (T j).cost
  · have y2 : ((x + 1) == (T j).cost) = true := beq_iff_eq.2 hcst
    have hov : overT (T j) = true := by unfold overT; rw [HX.out]; simp [hcst]
    have hrun : ({ ({ T j with ran := x + 1 } : CTk) with there := false } : CTk) = runT (T j) := by unfold runT; rw [HX.out, ht, hov]; rfl
    have hld : doneL (T j) j = [] := by unfold doneL; rw [HX.out]; exact if_neg hd
    have hlc : cutL (T j) j = [j] := by unfold cutL; rw [HX.out]; exact if_pos ⟨hd, hcst⟩
    have HR := Lib.hid hrun
    obtain rfl : sF = s' := by rw [← HSF.out, hov, if_pos rfl]
    obtain rfl := HLD.out.symm.trans hld
    obtain rfl := HLC.out.symm.trans hlc
    have s2 := S1.out.lis_new 3 1 1 #[.int .i64 (j : Int)] rfl (by unfold maxLen; omega)
    rw [List.append_assoc] at s2
    obtain ⟨hb, hh⟩ : ∃ hb, wq.heap.size = hb := ⟨_, rfl⟩
    rw [hh] at s2
    obtain ⟨d0, d1, d2, d3⟩ := cpu_box s2
    obtain ⟨g', off', hA2, hc2, hfr2⟩ := cpu_task s2 hj
    obtain ⟨rfl, rfl⟩ : g = g' ∧ off = off' := by rw [HA.out] at hA2; simpa using hA2
    have e6 := hc2 6 (by omega)
    have e6f := hfr2 (off + j * 10 + 6)
    have s3 := cpu_set s2 HA.out hj (show 6 < 10 by omega) (.bool false) { ({ T j with ran := x + 1 } : CTk) with there := false } (fun k hk => by
      unfold tkv
      rw [updK_self, updK_self]
      rcases (show k = 0 ∨ k = 1 ∨ k = 2 ∨ k = 3 ∨ k = 4 ∨ k = 5 ∨ k = 6 ∨ k = 7 ∨ k = 8 ∨ k = 9 by omega) with rfl | rfl | rfl | rfl | rfl | rfl | rfl | rfl | rfl | rfl <;> rfl)
    rw [updK_twice, HR.out] at s3
    have S3 := Lib.hid s3
    have HS := Lib.hid hs
    have HG := Lib.hid hG
    unfold tkv at e6
    rw [updK_self] at e6
    clear s2 s3 hc hfr hc2 hfr2 hA2 hA' hov hld hlc hrun S1 d0 d1 d3 hs hG
    go_upto_region 9 with (fail)
    generalize hz : wq.alloc (.cells #[.int .i64 (j : Int)] 3) = wz at *
    clear b0 b1 b2 b3 c1 c6 c7 c8 hz hh
    go_upto_region 10 with (fail)
    generalize wz.setCell ⟨g, off + j * 10 + 6, none⟩ (.bool false) = wy at *
    obtain ⟨d0, d1, d2, d3⟩ := cpu_box S3.out
    clear d0 d1 d3 e6 e6f
    go_wp2_with fail
    refine (Go_o (i := 3) S3.out rfl HS.out (j : Int) f HG.out).mono ?_
    rintro e w6 ⟨rfl, s6⟩
    have s6 : St w0 S0 w6 (CpuL p (updK T j (runT (T j))) V now sF ++ (X ++ [_])) := s6
    have S6 := Lib.hid s6
    clear s6 S3
    go_wp2_with fail
    go_ret2
    have s7 := S6.out
    rw [← List.append_assoc] at s7
    have s8 := (s7.comm.lis_nil 3 1).comm
    exact ⟨none, 0, 0, some ⟨hb, 0, none⟩, 1, 1, rfl, rfl, rfl, s8⟩
  · have y2 : ((x + 1) == (T j).cost) = false := beq_eq_false_iff_ne.2 hcst
    have hov : overT (T j) = false := by unfold overT; rw [HX.out, y1, y2]; rfl
    have hrun : ({ T j with ran := x + 1 } : CTk) = runT (T j) := by unfold runT; rw [HX.out, ht, hov]; simp [ht]
    have hld : doneL (T j) j = [] := by unfold doneL; rw [HX.out]; exact if_neg hd
    have hlc : cutL (T j) j = [] := by unfold cutL; rw [HX.out]; exact if_neg fun h => hcst h.2
    obtain rfl : sF = s := by rw [← HSF.out, hov, if_neg (by decide)]
    obtain rfl := HLD.out.symm.trans hld
    obtain rfl := HLC.out.symm.trans hlc
    have s2 := S1.out
    rw [hrun] at s2
    have S2 := Lib.hid (nil2 s2)
    clear s2 hc hfr hA' hov hld hlc hrun S1 hs hG
    go_wp2_with fail
    go_ret2
    exact ⟨none, 0, 0, none, 0, 0, rfl, rfl, rfl, S2.out⟩
end
end
section
set_option linter.unusedVariables false
set_option maxRecDepth 100000
set_option maxHeartbeats 4000000
/-- What a step tells. -/
def StepQ (w0 : World) (S0 : Nat → Prop) (X : List Res) (p : Pl) (T : Nat → CTk) (V : Nat → Sv) (now : Int) (s : QS) (who : Int) (ld lc lm : List Nat) (e : Ending) (w' : World) : Prop :=
  ∃ D cd C cc M cm, e = .returned (.tuple #[.agg #[.int .i64 who, .slice D ld.length cd, .slice C lc.length cc, .slice M lm.length cm], .int .i64 0]) ∧
    St w0 S0 w' ([LisR 3 1 (.slice D ld.length cd) ld.length (ivs ld), LisR 3 1 (.slice C lc.length cc) lc.length (ivs lc), LisR 3 1 (.slice M lm.length cm) lm.length (ivs lm)] ++ (CpuL p T V now s ++ X))
section
variable {w0 w : World} {S0 : Nat → Prop} {X : List Res} {p : Pl} {T T' : Nat → CTk} {V V' : Nat → Sv} {now id dem : Int} {s s' : QS}
/-- No time is left. -/
theorem cStep_no (H : St w0 S0 w (CpuL p T V now s ++ X)) (who : Int) (n0 : 0 ≤ now) (h : 4611686018427387904 ≤ now + 1) :
    Calls Try.prog 30 #[.pointer (some ⟨p.c, 0, none⟩), .int .i64 who] w fun e w' => e = .returned (.tuple #[.agg #[.int .i64 0, .slice none 0 0, .slice none 0 0, .slice none 0 0], .int .i64 2]) ∧ St w0 S0 w' (CpuL p T V now s ++ X) := by
  obtain ⟨b0, b1, b2, b3⟩ := cpu_box H
  have AD := Lib.hid (fun w => add_no now 1 w n0 (by omega) (by omega))
  have s2 := (H.box 41 #[.int .i64 0, .slice none 0 0, .slice none 0 0, .slice none 0 0]).comm
  obtain ⟨r, hr⟩ : ∃ r, w.heap.size = r := ⟨_, rfl⟩
  rw [hr] at s2
  have hb := (s2.blk 0 rfl).four4
  have q3 := (cpu_box (s2.drop 0 (by simp))).2.2.2
  have S2 := Lib.hid s2
  clear H b0 b1 b2 s2
  go_enter Try.func30, Try.ntmps30
  go_wp2_with fail
  refine (AD.out _).mono ?_
  rintro e w2 ⟨rfl, rfl⟩
  generalize w.alloc (.cells #[.int .i64 0, .slice none 0 0, .slice none 0 0, .slice none 0 0] 41) = wq at *
  have f0 := (S2.out.blk 0 rfl).frozen 0
  have f1 := (S2.out.blk 0 rfl).frozen 1
  have f2 := (S2.out.blk 0 rfl).frozen 2
  have f3 := (S2.out.blk 0 rfl).frozen 3
  have s3 := (((S2.out.set_ 0 rfl 0 (.int .i64 0)).set_ 0 rfl 1 (.slice none 0 0)).set_ 0 rfl 2 (.slice none 0 0)).set_ 0 rfl 3 (.slice none 0 0)
  have S3 := Lib.hid s3
  obtain ⟨h0, h1, h2, h3⟩ := (s3.blk 0 rfl).four4
  obtain ⟨e0, e1, e2, e3⟩ := hb
  have D3 := Lib.hid (s3.drop 0 (by simp))
  clear s3 S2 AD q3 hr
  go_wp2_with fail
  refine bodyPost_ret (v := .tuple #[.agg #[.int .i64 0, .slice none 0 0, .slice none 0 0, .slice none 0 0], .int .i64 2]) ?_ rfl ⟨rfl, D3.out⟩
  clear f0 f1 f2 f3 e0 e1 e2 e3 D3
  generalize (((wq.setCell ⟨r, 0, none⟩ (.int .i64 0)).setCell ⟨r, 1, none⟩ (.slice none 0 0)).setCell ⟨r, 2, none⟩ (.slice none 0 0)).setCell ⟨r, 3, none⟩ (.slice none 0 0) = wz at *
  simp [results, Try.results30, go_sem, h0, h1, h2, h3]
/-- A step of a job. -/
theorem cStep_run (H : St w0 S0 w (CpuL p T V now s ++ X)) (hn : p.n ≤ 100) (n0 : 0 ≤ now) (h1 : now + 1 < 4611686018427387904) {j : Nat} (hj : j < p.n) (ht : (T j).there = true) (r0 : 0 ≤ (T j).ran) (r1 : (T j).ran < 9223372036854775807) {q : Nat} (hs : s.ok q) {f : Int} (hG : GoP s (j : Int) f s')
    {T2 : Nat → CTk} (hT2 : updK T j (runT (T j)) = T2) {s2 : QS} (hs2 : (if overT (T j) = true then s' else s) = s2) {ld lc lm : List Nat} (hld : doneL (T j) j = ld) (hlc : cutL (T j) j = lc) (hlm : misL T2 (now + 1) p.n = lm) :
    Calls Try.prog 30 #[.pointer (some ⟨p.c, 0, none⟩), .int .i64 (j : Int)] w (StepQ w0 S0 X p T2 V (now + 1) s2 (j : Int) ld lc lm) := by
  have AD := Lib.hid (fun w => add_ok now 1 w n0 (by omega) (by omega) (by omega))
  have s3 := (H.box 41 #[.int .i64 0, .slice none 0 0, .slice none 0 0, .slice none 0 0]).comm
  obtain ⟨r, hr⟩ : ∃ r, w.heap.size = r := ⟨_, rfl⟩
  rw [hr] at s3
  have q3 := (cpu_box (s3.drop 0 (by simp))).2.2.2
  have S2 := Lib.hid s3
  have BK := Lib.hid (fun (W : World) (R1 R2 : Res) (n : Int) (T : Nat → CTk) (s : QS) (K : St w0 S0 W ([R1, R2] ++ (CpuL p T V n s ++ X))) => show St w0 S0 W (CpuL p T V n s ++ (X ++ [R1, R2])) from by
    have := K.comm
    rwa [List.append_assoc] at this)
  have RUN := Lib.hid (fun (W : World) (X2 : List Res) (K : St w0 S0 W (CpuL p T V now s ++ X2)) => by
    have h := cRun_c K hj ht r0 r1 hs hG
    rw [hT2, hs2, hld, hlc] at h
    exact h)
  have HLM := Lib.hid hlm
  have j0 : decide ((100 : Int) ≤ (j : Int)) = false := decide_eq_false (by omega)
  have j1 : ((j : Int) == -1) = false := beq_eq_false_iff_ne.2 (by omega)
  have j2 : ((j : Int) != -1) = true := by simp
  clear H s3 hT2 hs2 hld hlc hlm hG hs ht r0 r1
  go_enter Try.func30, Try.ntmps30
  go_wp2_with fail
  refine (AD.out _).mono ?_
  rintro e w2 ⟨rfl, rfl⟩
  generalize w.alloc (.cells #[.int .i64 0, .slice none 0 0, .slice none 0 0, .slice none 0 0] 41) = wq at *
  have s3 := (S2.out.box 41 #[.int .i64 (j : Int), .slice none 0 0, .slice none 0 0, .slice none 0 0]).comm
  obtain ⟨b, hb⟩ : ∃ b, wq.heap.size = b := ⟨_, rfl⟩
  rw [hb] at s3
  have S3 := Lib.hid (show St w0 S0 _ ([BlkR b 41 #[.int .i64 (j : Int), .slice none 0 0, .slice none 0 0, .slice none 0 0], BlkR r 41 #[.int .i64 0, .slice none 0 0, .slice none 0 0, .slice none 0 0]] ++ (CpuL p T V now s ++ X)) from s3)
  clear s3 S2 AD q3 hr
  go_wp2_with fail
  refine (RUN.out _ _ (BK.out _ _ _ _ _ _ S3.out)).mono ?_
  rintro e w2 ⟨D, nd, cd, C, nc, cc, rfl, hnd, hnc, s4⟩
  subst hnd hnc
  have s5 : St w0 S0 w2 ([BlkR b 41 #[.int .i64 (j : Int), .slice none 0 0, .slice none 0 0, .slice none 0 0], BlkR r 41 #[.int .i64 0, .slice none 0 0, .slice none 0 0, .slice none 0 0], LisR 3 1 (.slice D ld.length cd) ld.length (ivs ld), LisR 3 1 (.slice C lc.length cc) lc.length (ivs lc)] ++ (CpuL p T2 V now s2 ++ X)) := by
    have k := s4.comm
    rw [← List.append_assoc (CpuL p T2 V now s2) X, List.append_assoc (CpuL p T2 V now s2 ++ X)] at k
    exact k.comm
  have S5 := Lib.hid s5
  have k1 : w2.cell? ⟨b, 1, none⟩ = some (.slice none 0 0) := (s5.blk 0 rfl).four4.2.1
  have k2 : w2.cell? ⟨b, 2, none⟩ = some (.slice none 0 0) := (s5.blk 0 rfl).four4.2.2.1
  have g1 := (s5.blk 0 rfl).frozen 1
  have g2 := (s5.blk 0 rfl).frozen 2
  have s6 := (s5.set_ 0 rfl 1 (.slice D ld.length cd)).set_ 0 rfl 2 (.slice C lc.length cc)
  have S6 := Lib.hid s6
  clear s4 s5 s6 S3 RUN BK hb
  go_upto_region 9 with (fail)
  generalize (w2.setCell ⟨b, 1, none⟩ (.slice D ld.length cd)).setCell ⟨b, 2, none⟩ (.slice C lc.length cc) = w3 at *
  clear k1 k2 g1 g2 S5
  have m3 : w3.cell? ⟨p.c, 3, none⟩ = some (.int .u64 now) := (S6.out.blk 4 rfl).four4.2.2.2
  have m4 := (S6.out.blk 4 rfl).frozen 3
  have s7 : St w0 S0 (w3.setCell ⟨p.c, 3, none⟩ (.int .u64 (now + 1))) ([BlkR b 41 #[.int .i64 (j : Int), .slice D ld.length cd, .slice C lc.length cc, .slice none 0 0], BlkR r 41 #[.int .i64 0, .slice none 0 0, .slice none 0 0, .slice none 0 0], LisR 3 1 (.slice D ld.length cd) ld.length (ivs ld), LisR 3 1 (.slice C lc.length cc) lc.length (ivs lc)] ++ (CpuL p T2 V (now + 1) s2 ++ X)) := S6.out.set_ 4 rfl 3 (.int .u64 (now + 1))
  have s8 : St w0 S0 (w3.setCell ⟨p.c, 3, none⟩ (.int .u64 (now + 1))) (CpuL p T2 V (now + 1) s2 ++ (X ++ [BlkR b 41 #[.int .i64 (j : Int), .slice D ld.length cd, .slice C lc.length cc, .slice none 0 0], BlkR r 41 #[.int .i64 0, .slice none 0 0, .slice none 0 0, .slice none 0 0], LisR 3 1 (.slice D ld.length cd) ld.length (ivs ld), LisR 3 1 (.slice C lc.length cc) lc.length (ivs lc)])) := by
    have k := s7.comm
    rwa [List.append_assoc] at k
  have MC := Lib.hid (cMissed_c s8 (by omega))
  clear s7 s8 S6
  go_upto_region 10 with (fail)
  generalize w3.setCell ⟨p.c, 3, none⟩ (.int .u64 (now + 1)) = w4 at *
  clear m3 m4
  go_wp2_with fail
  refine MC.out.mono ?_
  rintro e w5 ⟨M, cm, rfl, s9⟩
  rw [HLM.out] at s9 ⊢
  have sa : St w0 S0 w5 ([BlkR b 41 #[.int .i64 (j : Int), .slice D ld.length cd, .slice C lc.length cc, .slice none 0 0], BlkR r 41 #[.int .i64 0, .slice none 0 0, .slice none 0 0, .slice none 0 0], LisR 3 1 (.slice D ld.length cd) ld.length (ivs ld), LisR 3 1 (.slice C lc.length cc) lc.length (ivs lc), LisR 3 1 (.slice M lm.length cm) lm.length (ivs lm)] ++ (CpuL p T2 V (now + 1) s2 ++ X)) := by
    have k := s9
    rw [← List.append_assoc (CpuL p T2 V (now + 1) s2) X, List.append_assoc (CpuL p T2 V (now + 1) s2 ++ X)] at k
    exact k.comm
  have k3 : w5.cell? ⟨b, 3, none⟩ = some (.slice none 0 0) := (sa.blk 0 rfl).four4.2.2.2
  have g3 := (sa.blk 0 rfl).frozen 3
  have sb := sa.set_ 0 rfl 3 (.slice M lm.length cm)
  have SB := Lib.hid sb
  clear s9 sa sb MC
  go_upto_region 11 with (fail)
  generalize w5.setCell ⟨b, 3, none⟩ (.slice M lm.length cm) = w6 at *
  clear k3 g3
  obtain ⟨e0, e1, e2, e3⟩ := (SB.out.blk 0 rfl).four4
  obtain ⟨h0, h1, h2, h3⟩ := (SB.out.blk 1 rfl).four4
  have f0 := (SB.out.blk 1 rfl).frozen 0
  have f1 := (SB.out.blk 1 rfl).frozen 1
  have f2 := (SB.out.blk 1 rfl).frozen 2
  have f3 := (SB.out.blk 1 rfl).frozen 3
  have sc := (((SB.out.set_ 1 rfl 0 (.int .i64 (j : Int))).set_ 1 rfl 1 (.slice D ld.length cd)).set_ 1 rfl 2 (.slice C lc.length cc)).set_ 1 rfl 3 (.slice M lm.length cm)
  obtain ⟨y0, y1, y2, y3⟩ := (sc.blk 1 rfl).four4
  have SD := Lib.hid ((sc.drop 0 (by simp)).drop 0 (by simp))
  clear sc SB
  go_wp2_with fail
  refine bodyPost_ret (v := .tuple #[.agg #[.int .i64 (j : Int), .slice D ld.length cd, .slice C lc.length cc, .slice M lm.length cm], .int .i64 0]) ?_ rfl ⟨D, cd, C, cc, M, cm, rfl, SD.out⟩
  clear f0 f1 f2 f3 e0 e1 e2 e3 h0 h1 h2 h3 SD
  generalize (((w6.setCell ⟨r, 0, none⟩ (.int .i64 (j : Int))).setCell ⟨r, 1, none⟩ (.slice D ld.length cd)).setCell ⟨r, 2, none⟩ (.slice C lc.length cc)).setCell ⟨r, 3, none⟩ (.slice M lm.length cm) = wz at *
  simp [results, Try.results30, go_sem, y0, y1, y2, y3]
end
end
section
set_option linter.unusedVariables false
set_option maxRecDepth 100000
set_option maxHeartbeats 4000000
section
variable {w0 w : World} {S0 : Nat → Prop} {X : List Res} {p : Pl} {T T' : Nat → CTk} {V V' : Nat → Sv} {now id dem : Int} {s s' : QS}
theorem cStep_idle (H : St w0 S0 w (CpuL p T V now s ++ X)) (hn : p.n ≤ 100) (n0 : 0 ≤ now) (h1 : now + 1 < 4611686018427387904) {lm : List Nat} (hlm : misL T (now + 1) p.n = lm) :
    Calls Try.prog 30 #[.pointer (some ⟨p.c, 0, none⟩), .int .i64 (-1)] w (StepQ w0 S0 X p T V (now + 1) s (-1) [] [] lm) := by
  have AD := Lib.hid (fun w => add_ok now 1 w n0 (by omega) (by omega) (by omega))
  have s3 := (H.box 41 #[.int .i64 0, .slice none 0 0, .slice none 0 0, .slice none 0 0]).comm
  obtain ⟨r, hr⟩ : ∃ r, w.heap.size = r := ⟨_, rfl⟩
  rw [hr] at s3
  have q3 := (cpu_box (s3.drop 0 (by simp))).2.2.2
  have S2 := Lib.hid s3
  have HLM := Lib.hid hlm
  clear H s3 hlm
  go_enter Try.func30, Try.ntmps30
  go_wp2_with fail
  refine (AD.out _).mono ?_
  rintro e w2 ⟨rfl, rfl⟩
  generalize w.alloc (.cells #[.int .i64 0, .slice none 0 0, .slice none 0 0, .slice none 0 0] 41) = wq at *
  have s3 := (S2.out.box 41 #[.int .i64 (-1), .slice none 0 0, .slice none 0 0, .slice none 0 0]).comm
  obtain ⟨b, hb⟩ : ∃ b, wq.heap.size = b := ⟨_, rfl⟩
  rw [hb] at s3
  have S3 := Lib.hid (show St w0 S0 _ ([BlkR b 41 #[.int .i64 (-1), .slice none 0 0, .slice none 0 0, .slice none 0 0], BlkR r 41 #[.int .i64 0, .slice none 0 0, .slice none 0 0, .slice none 0 0]] ++ (CpuL p T V now s ++ X)) from s3)
  clear s3 S2 AD q3 hr
  have s5 := ((S3.out.comm.lis_nil 3 1).lis_nil 3 1)
  rw [List.append_assoc, List.append_assoc] at s5
  have S6 := Lib.hid (show St w0 S0 _ ([BlkR b 41 #[.int .i64 (-1), .slice none 0 0, .slice none 0 0, .slice none 0 0], BlkR r 41 #[.int .i64 0, .slice none 0 0, .slice none 0 0, .slice none 0 0], LisR 3 1 (.slice none 0 0) 0 (ivs []), LisR 3 1 (.slice none 0 0) 0 (ivs [])] ++ (CpuL p T V now s ++ X)) from s5.comm)
  clear s5 S3
  go_upto_region 9 with (fail)
  generalize wq.alloc (.cells #[.int .i64 (-1), .slice none 0 0, .slice none 0 0, .slice none 0 0] 41) = w3 at *
  clear hb
  have m3 : w3.cell? ⟨p.c, 3, none⟩ = some (.int .u64 now) := (S6.out.blk 4 rfl).four4.2.2.2
  have m4 := (S6.out.blk 4 rfl).frozen 3
  have s7 : St w0 S0 (w3.setCell ⟨p.c, 3, none⟩ (.int .u64 (now + 1))) ([BlkR b 41 #[.int .i64 (-1), .slice none 0 0, .slice none 0 0, .slice none 0 0], BlkR r 41 #[.int .i64 0, .slice none 0 0, .slice none 0 0, .slice none 0 0], LisR 3 1 (.slice none 0 0) 0 (ivs []), LisR 3 1 (.slice none 0 0) 0 (ivs [])] ++ (CpuL p T V (now + 1) s ++ X)) := S6.out.set_ 4 rfl 3 (.int .u64 (now + 1))
  have s8 : St w0 S0 (w3.setCell ⟨p.c, 3, none⟩ (.int .u64 (now + 1))) (CpuL p T V (now + 1) s ++ (X ++ [BlkR b 41 #[.int .i64 (-1), .slice none 0 0, .slice none 0 0, .slice none 0 0], BlkR r 41 #[.int .i64 0, .slice none 0 0, .slice none 0 0, .slice none 0 0], LisR 3 1 (.slice none 0 0) 0 (ivs []), LisR 3 1 (.slice none 0 0) 0 (ivs [])])) := by
    have k := s7.comm
    rwa [List.append_assoc] at k
  have MC := Lib.hid (cMissed_c s8 (by omega))
  clear s7 s8 S6
  go_upto_region 10 with (fail)
  generalize w3.setCell ⟨p.c, 3, none⟩ (.int .u64 (now + 1)) = w4 at *
  clear m3 m4
  go_wp2_with fail
  refine MC.out.mono ?_
  rintro e w5 ⟨M, cm, rfl, s9⟩
  rw [HLM.out] at s9 ⊢
  have sa : St w0 S0 w5 ([BlkR b 41 #[.int .i64 (-1), .slice none 0 0, .slice none 0 0, .slice none 0 0], BlkR r 41 #[.int .i64 0, .slice none 0 0, .slice none 0 0, .slice none 0 0], LisR 3 1 (.slice none 0 0) 0 (ivs []), LisR 3 1 (.slice none 0 0) 0 (ivs []), LisR 3 1 (.slice M lm.length cm) lm.length (ivs lm)] ++ (CpuL p T V (now + 1) s ++ X)) := by
    have k := s9
    rw [← List.append_assoc (CpuL p T V (now + 1) s) X, List.append_assoc (CpuL p T V (now + 1) s ++ X)] at k
    exact k.comm
  have k3 : w5.cell? ⟨b, 3, none⟩ = some (.slice none 0 0) := (sa.blk 0 rfl).four4.2.2.2
  have g3 := (sa.blk 0 rfl).frozen 3
  have sb := sa.set_ 0 rfl 3 (.slice M lm.length cm)
  have SB := Lib.hid sb
  clear s9 sa sb MC
  go_upto_region 11 with (fail)
  generalize w5.setCell ⟨b, 3, none⟩ (.slice M lm.length cm) = w6 at *
  clear k3 g3
  obtain ⟨e0, e1, e2, e3⟩ := (SB.out.blk 0 rfl).four4
  obtain ⟨h0, h1, h2, h3⟩ := (SB.out.blk 1 rfl).four4
  have f0 := (SB.out.blk 1 rfl).frozen 0
  have f1 := (SB.out.blk 1 rfl).frozen 1
  have f2 := (SB.out.blk 1 rfl).frozen 2
  have f3 := (SB.out.blk 1 rfl).frozen 3
  have sc := (((SB.out.set_ 1 rfl 0 (.int .i64 (-1))).set_ 1 rfl 1 (.slice none 0 0)).set_ 1 rfl 2 (.slice none 0 0)).set_ 1 rfl 3 (.slice M lm.length cm)
  obtain ⟨y0, y1, y2, y3⟩ := (sc.blk 1 rfl).four4
  have SD := Lib.hid ((sc.drop 0 (by simp)).drop 0 (by simp))
  clear sc SB
  go_wp2_with fail
  refine bodyPost_ret (v := .tuple #[.agg #[.int .i64 (-1), .slice none 0 0, .slice none 0 0, .slice M lm.length cm], .int .i64 0]) ?_ rfl ⟨none, 0, none, 0, M, cm, rfl, SD.out⟩
  clear f0 f1 f2 f3 e0 e1 e2 e3 h0 h1 h2 h3 SD
  generalize (((w6.setCell ⟨r, 0, none⟩ (.int .i64 (-1))).setCell ⟨r, 1, none⟩ (.slice none 0 0)).setCell ⟨r, 2, none⟩ (.slice none 0 0)).setCell ⟨r, 3, none⟩ (.slice M lm.length cm) = wz at *
  simp [results, Try.results30, go_sem, y0, y1, y2, y3]
theorem cStep_serve (H : St w0 S0 w (CpuL p T V now s ++ X)) (hn : p.n ≤ 100) (n0 : 0 ≤ now) (h1 : now + 1 < 4611686018427387904) {k : Nat} (hk : k < p.m) (hm : p.m ≤ 100) (hv : SvOK now (V k)) (hw : 0 < (V k).work) {V2 : Nat → Sv} (hV2 : updK V k (serveS (V k) now) = V2) {lm : List Nat} (hlm : misL T (now + 1) p.n = lm) :
    Calls Try.prog 30 #[.pointer (some ⟨p.c, 0, none⟩), .int .i64 (100 + (k : Int))] w (StepQ w0 S0 X p T V2 (now + 1) s (100 + (k : Int)) [] [] lm) := by
  have AD := Lib.hid (fun w => add_ok now 1 w n0 (by omega) (by omega) (by omega))
  have s3 := (H.box 41 #[.int .i64 0, .slice none 0 0, .slice none 0 0, .slice none 0 0]).comm
  obtain ⟨r, hr⟩ : ∃ r, w.heap.size = r := ⟨_, rfl⟩
  rw [hr] at s3
  have q3 := (cpu_box (s3.drop 0 (by simp))).2.2.2
  have S2 := Lib.hid s3
  have HLM := Lib.hid hlm
  have SRV := Lib.hid (fun (W : World) (X2 : List Res) (K : St w0 S0 W (CpuL p T V now s ++ X2)) => by
    have h := cServe_c K hk hv hw n0 (by omega)
    rw [hV2] at h
    exact h)
  have j0 : decide ((100 : Int) ≤ 100 + (k : Int)) = true := decide_eq_true (by omega)
  have j1 : IntKind.i64.wrap (100 + (k : Int) - 100) = (k : Int) := by rw [show 100 + (k : Int) - 100 = (k : Int) by omega]; exact IntWalk.i64_in _ ⟨by omega, by omega⟩
  have j3 : 100 + (k : Int) - 100 = (k : Int) := by omega
  clear H s3 hlm hV2 hv hw
  go_enter Try.func30, Try.ntmps30
  go_wp2_with fail
  refine (AD.out _).mono ?_
  rintro e w2 ⟨rfl, rfl⟩
  generalize w.alloc (.cells #[.int .i64 0, .slice none 0 0, .slice none 0 0, .slice none 0 0] 41) = wq at *
  have s3 := (S2.out.box 41 #[.int .i64 (100 + (k : Int)), .slice none 0 0, .slice none 0 0, .slice none 0 0]).comm
  obtain ⟨b, hb⟩ : ∃ b, wq.heap.size = b := ⟨_, rfl⟩
  rw [hb] at s3
  have S3 := Lib.hid (show St w0 S0 _ ([BlkR b 41 #[.int .i64 (100 + (k : Int)), .slice none 0 0, .slice none 0 0, .slice none 0 0], BlkR r 41 #[.int .i64 0, .slice none 0 0, .slice none 0 0, .slice none 0 0]] ++ (CpuL p T V now s ++ X)) from s3)
  clear s3 S2 AD q3 hr
  go_wp2_with fail
  refine (SRV.out _ (X ++ [BlkR b 41 #[.int .i64 (100 + (k : Int)), .slice none 0 0, .slice none 0 0, .slice none 0 0], BlkR r 41 #[.int .i64 0, .slice none 0 0, .slice none 0 0, .slice none 0 0]]) (by have k := S3.out.comm; rwa [List.append_assoc] at k)).mono ?_
  rintro e w2 ⟨rfl, s4⟩
  rw [← List.append_assoc] at s4
  have s5 := ((s4.lis_nil 3 1).lis_nil 3 1)
  rw [List.append_assoc, List.append_assoc] at s5
  have S6 := Lib.hid (show St w0 S0 _ ([BlkR b 41 #[.int .i64 (100 + (k : Int)), .slice none 0 0, .slice none 0 0, .slice none 0 0], BlkR r 41 #[.int .i64 0, .slice none 0 0, .slice none 0 0, .slice none 0 0], LisR 3 1 (.slice none 0 0) 0 (ivs []), LisR 3 1 (.slice none 0 0) 0 (ivs [])] ++ (CpuL p T V2 now s ++ X)) from s5.comm)
  clear s4 s5 S3 SRV hb
  go_upto_region 9 with (fail)
  have m3 : w2.cell? ⟨p.c, 3, none⟩ = some (.int .u64 now) := (S6.out.blk 4 rfl).four4.2.2.2
  have m4 := (S6.out.blk 4 rfl).frozen 3
  have s7 : St w0 S0 (w2.setCell ⟨p.c, 3, none⟩ (.int .u64 (now + 1))) ([BlkR b 41 #[.int .i64 (100 + (k : Int)), .slice none 0 0, .slice none 0 0, .slice none 0 0], BlkR r 41 #[.int .i64 0, .slice none 0 0, .slice none 0 0, .slice none 0 0], LisR 3 1 (.slice none 0 0) 0 (ivs []), LisR 3 1 (.slice none 0 0) 0 (ivs [])] ++ (CpuL p T V2 (now + 1) s ++ X)) := S6.out.set_ 4 rfl 3 (.int .u64 (now + 1))
  have s8 : St w0 S0 (w2.setCell ⟨p.c, 3, none⟩ (.int .u64 (now + 1))) (CpuL p T V2 (now + 1) s ++ (X ++ [BlkR b 41 #[.int .i64 (100 + (k : Int)), .slice none 0 0, .slice none 0 0, .slice none 0 0], BlkR r 41 #[.int .i64 0, .slice none 0 0, .slice none 0 0, .slice none 0 0], LisR 3 1 (.slice none 0 0) 0 (ivs []), LisR 3 1 (.slice none 0 0) 0 (ivs [])])) := by
    have k := s7.comm
    rwa [List.append_assoc] at k
  have MC := Lib.hid (cMissed_c s8 (by omega))
  clear s7 s8 S6
  go_upto_region 10 with (fail)
  generalize w2.setCell ⟨p.c, 3, none⟩ (.int .u64 (now + 1)) = w4 at *
  clear m3 m4
  go_wp2_with fail
  refine MC.out.mono ?_
  rintro e w5 ⟨M, cm, rfl, s9⟩
  rw [HLM.out] at s9 ⊢
  have sa : St w0 S0 w5 ([BlkR b 41 #[.int .i64 (100 + (k : Int)), .slice none 0 0, .slice none 0 0, .slice none 0 0], BlkR r 41 #[.int .i64 0, .slice none 0 0, .slice none 0 0, .slice none 0 0], LisR 3 1 (.slice none 0 0) 0 (ivs []), LisR 3 1 (.slice none 0 0) 0 (ivs []), LisR 3 1 (.slice M lm.length cm) lm.length (ivs lm)] ++ (CpuL p T V2 (now + 1) s ++ X)) := by
    have k := s9
    rw [← List.append_assoc (CpuL p T V2 (now + 1) s) X, List.append_assoc (CpuL p T V2 (now + 1) s ++ X)] at k
    exact k.comm
  have k3 : w5.cell? ⟨b, 3, none⟩ = some (.slice none 0 0) := (sa.blk 0 rfl).four4.2.2.2
  have g3 := (sa.blk 0 rfl).frozen 3
  have sb := sa.set_ 0 rfl 3 (.slice M lm.length cm)
  have SB := Lib.hid sb
  clear s9 sa sb MC
  go_upto_region 11 with (fail)
  generalize w5.setCell ⟨b, 3, none⟩ (.slice M lm.length cm) = w6 at *
  clear k3 g3
  obtain ⟨e0, e1, e2, e3⟩ := (SB.out.blk 0 rfl).four4
  obtain ⟨h0, h1, h2, h3⟩ := (SB.out.blk 1 rfl).four4
  have f0 := (SB.out.blk 1 rfl).frozen 0
  have f1 := (SB.out.blk 1 rfl).frozen 1
  have f2 := (SB.out.blk 1 rfl).frozen 2
  have f3 := (SB.out.blk 1 rfl).frozen 3
  have sc := (((SB.out.set_ 1 rfl 0 (.int .i64 (100 + (k : Int)))).set_ 1 rfl 1 (.slice none 0 0)).set_ 1 rfl 2 (.slice none 0 0)).set_ 1 rfl 3 (.slice M lm.length cm)
  obtain ⟨y0, y1, y2, y3⟩ := (sc.blk 1 rfl).four4
  have SD := Lib.hid ((sc.drop 0 (by simp)).drop 0 (by simp))
  clear sc SB
  go_wp2_with fail
  refine bodyPost_ret (v := .tuple #[.agg #[.int .i64 (100 + (k : Int)), .slice none 0 0, .slice none 0 0, .slice M lm.length cm], .int .i64 0]) ?_ rfl ⟨none, 0, none, 0, M, cm, rfl, SD.out⟩
  clear f0 f1 f2 f3 e0 e1 e2 e3 h0 h1 h2 h3 SD
  generalize (((w6.setCell ⟨r, 0, none⟩ (.int .i64 (100 + (k : Int)))).setCell ⟨r, 1, none⟩ (.slice none 0 0)).setCell ⟨r, 2, none⟩ (.slice none 0 0)).setCell ⟨r, 3, none⟩ (.slice M lm.length cm) = wz at *
  simp [results, Try.results30, go_sem, y0, y1, y2, y3]
end
end
section
set_option linter.unusedVariables false
set_option maxRecDepth 100000
set_option maxHeartbeats 1000000
/-- What a tick does. -/
def TickP (n m : Nat) (T : Nat → CTk) (V : Nat → Sv) (now : Int) (s : QS) (who : Int) (ld lc : List Nat) (T' : Nat → CTk) (V' : Nat → Sv) (s' : QS) : Prop :=
  (∃ k, k < m ∧ canS (V k) now ∧ (∀ j, j < k → ¬ canS (V j) now) ∧ who = 100 + (k : Int) ∧ ld = [] ∧ lc = [] ∧ T' = T ∧ s' = s ∧ V' = updK (seenV V now (k + 1)) k (serveS (seenV V now (k + 1) k) now)) ∨
  ((∀ j, j < m → ¬ canS (V j) now) ∧ V' = seenV V now m ∧
    ((∃ x t, s.all = x :: t ∧ x.1 < n ∧ (T x.1).there = true ∧ who = (x.1 : Int) ∧ T' = updK T x.1 (runT (T x.1)) ∧ s' = (if overT (T x.1) = true then s.go x.1 else s) ∧ ld = doneL (T x.1) x.1 ∧ lc = cutL (T x.1) x.1) ∨
     (s.all = [] ∧ who = -1 ∧ ld = [] ∧ lc = [] ∧ T' = T ∧ s' = s)))
def TickQ (w0 : World) (S0 : Nat → Prop) (X : List Res) (p : Pl) (T : Nat → CTk) (V : Nat → Sv) (now : Int) (s : QS) (e : Ending) (w' : World) : Prop :=
  ∃ who ld lc T' V' s', TickP p.n p.m T V now s who ld lc T' V' s' ∧ StepQ w0 S0 X p T' V' (now + 1) s' who ld lc (misL T' (now + 1) p.n) e w'
/-- The queue has just the tasks whose jobs are there. -/
def Linked (n : Nat) (T : Nat → CTk) (s : QS) : Prop := ∀ j pr, s.pr j = some pr → j < n ∧ (T j).there = true ∧ 0 ≤ (T j).ran ∧ (T j).ran < 9223372036854775807
theorem notBack_len (now : Int) (xs : List Int) : (notBack now xs).length ≤ xs.length := notBack_le now xs
theorem SvOK.seen {now : Int} {v : Sv} (h : SvOK now v) : SvOK now (seenS v now) :=
  ⟨h.s, by have := notBack_len now v.xs; have := h.x; unfold seenS; dsimp only; omega, Int.le_refl _, h.w0, h.w1⟩
section
variable {w0 w : World} {S0 : Nat → Prop} {X : List Res} {p : Pl} {T T' : Nat → CTk} {V V' : Nat → Sv} {now id dem : Int} {s s' : QS}
theorem cTick_c (H : St w0 S0 w (CpuL p T V now s ++ X)) (hn : p.n ≤ 100) (hm : p.m ≤ 100) (n0 : 0 ≤ now) (n1 : now + 1 < 4611686018427387904) (hv : ∀ j, j < p.m → SvOK now (V j)) {q : Nat} (hs : s.ok q) (hl : Linked p.n T s) :
    Calls Try.prog 12 #[.pointer (some ⟨p.c, 0, none⟩)] w (TickQ w0 S0 X p T V now s) := by
  have sb := H.box 41 #[.int .i64 0, .slice none 0 0, .slice none 0 0, .slice none 0 0]
  obtain ⟨r, hr⟩ : ∃ r, w.heap.size = r := ⟨_, rfl⟩
  rw [hr, List.append_assoc] at sb
  have WC := Lib.hid (cWho_c sb hv hm n0 (by omega) hs)
  have KEY := Lib.hid (fun (W : World) (a : Int) (V2 : Nat → Sv) (hw : WhoP p.m V now s a V2) (K : St w0 S0 W (CpuL p T V2 now s ++ (X ++ [BlkR r 41 #[.int .i64 0, .slice none 0 0, .slice none 0 0, .slice none 0 0]]))) => show ∃ ld lc T' V' s', TickP p.n p.m T V now s a ld lc T' V' s' ∧ Calls Try.prog 30 #[.pointer (some ⟨p.c, 0, none⟩), .int .i64 a] W (StepQ w0 S0 (X ++ [BlkR r 41 #[.int .i64 0, .slice none 0 0, .slice none 0 0, .slice none 0 0]]) p T' V' (now + 1) s' a ld lc (misL T' (now + 1) p.n)) from by
    rcases hw with ⟨k, hk, hc, hno, rfl, rfl⟩ | ⟨hno, rfl, ⟨x, t, hall, rfl⟩ | ⟨hall, rfl⟩⟩
    · have hsv : SvOK now (seenV V now (k + 1) k) := by unfold seenV; rw [if_pos ⟨Nat.lt_succ_self k, hc.1⟩]; exact (hv k hk).seen
      have hw2 : 0 < (seenV V now (k + 1) k).work := by unfold seenV; rw [if_pos ⟨Nat.lt_succ_self k, hc.1⟩]; exact hc.1
      exact ⟨[], [], T, _, s, Or.inl ⟨k, hk, hc, hno, rfl, rfl, rfl, rfl, rfl, rfl⟩, cStep_serve K hn n0 n1 hk hm hsv hw2 rfl rfl⟩
    · have hp : s.pr x.1 = some x.2 := hs.all_mem.1 (by rw [hall]; exact List.mem_cons_self)
      obtain ⟨l1, l2, l3, l4⟩ := hl _ _ hp
      have hb := (hs.bd _ _ hp).1
      have hG : GoP s (x.1 : Int) 0 (s.go x.1) := Or.inr ⟨⟨by omega, by rw [Int.toNat_natCast, hp]; rfl⟩, rfl, by rw [Int.toNat_natCast]⟩
      exact ⟨_, _, _, _, _, Or.inr ⟨hno, rfl, Or.inl ⟨x, t, hall, l1, l2, rfl, rfl, rfl, rfl, rfl⟩⟩, cStep_run K hn n0 n1 l1 l2 l3 l4 hs hG rfl rfl rfl rfl rfl⟩
    · exact ⟨[], [], T, _, s, Or.inr ⟨hno, rfl, Or.inr ⟨hall, rfl, rfl, rfl, rfl, rfl⟩⟩, cStep_idle K hn n0 n1 rfl⟩)
  clear H hv hs hl sb
  go_enter Try.func12, Try.ntmps12
  go_wp2_with fail
  refine WC.out.mono ?_
  rintro e w2 ⟨a, V2, rfl, hw, s2⟩
  obtain ⟨ld, lc, T', V', s', hTP, hSC⟩ := KEY.out _ _ _ hw s2
  have TP := Lib.hid hTP
  have SC := Lib.hid hSC
  clear WC s2 hTP hSC KEY hw hr
  go_wp2_with fail
  refine SC.out.mono ?_
  rintro e w3 ⟨D, cd, C, cc, M, cm, rfl, s3⟩
  obtain ⟨lm, hlm⟩ : ∃ lm, misL T' (now + 1) p.n = lm := ⟨_, rfl⟩
  have HLM := Lib.hid hlm
  rw [hlm] at s3 ⊢
  have s4 : St w0 S0 w3 ([BlkR r 41 #[.int .i64 0, .slice none 0 0, .slice none 0 0, .slice none 0 0], LisR 3 1 (.slice D ld.length cd) ld.length (ivs ld), LisR 3 1 (.slice C lc.length cc) lc.length (ivs lc), LisR 3 1 (.slice M lm.length cm) lm.length (ivs lm)] ++ (CpuL p T' V' (now + 1) s' ++ X)) := by
    have k := s3.comm
    rw [← List.append_assoc (CpuL p T' V' (now + 1) s') X, List.append_assoc (CpuL p T' V' (now + 1) s' ++ X)] at k
    exact k.comm
  have S4 := Lib.hid s4
  obtain ⟨h0, h1, h2, h3⟩ := (s4.blk 0 rfl).four4
  have f0 := (s4.blk 0 rfl).frozen 0
  have f1 := (s4.blk 0 rfl).frozen 1
  have f2 := (s4.blk 0 rfl).frozen 2
  have f3 := (s4.blk 0 rfl).frozen 3
  have sc := (((s4.set_ 0 rfl 0 (.int .i64 a)).set_ 0 rfl 1 (.slice D ld.length cd)).set_ 0 rfl 2 (.slice C lc.length cc)).set_ 0 rfl 3 (.slice M lm.length cm)
  obtain ⟨y0, y1, y2, y3⟩ := (sc.blk 0 rfl).four4
  have SD := Lib.hid (sc.drop 0 (by simp))
  have FIN := Lib.hid (show TickQ w0 S0 X p T V now s (.returned (.tuple #[.agg #[.int .i64 a, .slice D ld.length cd, .slice C lc.length cc, .slice M lm.length cm], .int .i64 0])) _ from ⟨a, ld, lc, T', V', s', TP.out, D, cd, C, cc, M, cm, by rw [hlm], by rw [hlm]; exact SD.out⟩)
  clear sc s3 s4 S4 SC hlm SD TP
  go_wp2_with fail
  refine bodyPost_ret (v := .tuple #[.agg #[.int .i64 a, .slice D ld.length cd, .slice C lc.length cc, .slice M lm.length cm], .int .i64 0]) ?_ rfl FIN.out
  clear f0 f1 f2 f3 h0 h1 h2 h3 FIN
  generalize (((w3.setCell ⟨r, 0, none⟩ (.int .i64 a)).setCell ⟨r, 1, none⟩ (.slice D ld.length cd)).setCell ⟨r, 2, none⟩ (.slice C lc.length cc)).setCell ⟨r, 3, none⟩ (.slice M lm.length cm) = wz at *
  simp [results, Try.results12, go_sem, y0, y1, y2, y3]
end
end
section
set_option linter.unusedVariables false
theorem nat_small : ∀ (N : Nat) (l : List Nat), l.Nodup → (∀ x ∈ l, x < N) → l.length ≤ N
  | 0, l, _, h => by
    cases l with
    | nil => exact Nat.le_refl _
    | cons a t => exact absurd (h a List.mem_cons_self) (Nat.not_lt_zero a)
  | N + 1, l, hn, h => by
    have h2 := nat_small N (l.filter fun x => decide (x ≠ N)) (hn.filter _) fun x hx => by
      rw [List.mem_filter] at hx
      have := h x hx.1
      have := of_decide_eq_true hx.2
      omega
    by_cases hN : N ∈ l
    · have := filter_one hn hN
      omega
    · have : (l.filter fun x => decide (x ≠ N)) = l := List.filter_eq_self.2 fun x hx => decide_eq_true (p := x ≠ N) fun e => hN (e ▸ hx)
      rw [this] at h2; omega
/-- However many came: there are at most as many as there are numbers. -/
theorem QS.ok.low {m : Nat} {s : QS} (h : s.ok m) : s.ok 64 :=
  ⟨h.mem, h.bd, h.nd, by
    rw [← ids_len]
    exact nat_small 64 s.ids h.ids_nd fun x hx => h.ids_lt hx, by omega⟩
end
section
set_option linter.unusedVariables false
set_option maxRecDepth 100000
set_option maxHeartbeats 1000000
def TickN (w0 : World) (S0 : Nat → Prop) (X : List Res) (p : Pl) (T : Nat → CTk) (V : Nat → Sv) (now : Int) (s : QS) (e : Ending) (w' : World) : Prop :=
  e = .returned (.tuple #[.agg #[.int .i64 0, .slice none 0 0, .slice none 0 0, .slice none 0 0], .int .i64 2]) ∧ ∃ a V', WhoP p.m V now s a V' ∧ St w0 S0 w' (CpuL p T V' now s ++ X)
section
variable {w0 w : World} {S0 : Nat → Prop} {X : List Res} {p : Pl} {T T' : Nat → CTk} {V V' : Nat → Sv} {now id dem : Int} {s s' : QS}
theorem cTick_no (H : St w0 S0 w (CpuL p T V now s ++ X)) (hm : p.m ≤ 100) (n0 : 0 ≤ now) (n1 : now < 4611686018427387904) (n2 : 4611686018427387904 ≤ now + 1) (hv : ∀ j, j < p.m → SvOK now (V j)) {q : Nat} (hs : s.ok q) :
    Calls Try.prog 12 #[.pointer (some ⟨p.c, 0, none⟩)] w (TickN w0 S0 X p T V now s) := by
  have sb := H.box 41 #[.int .i64 0, .slice none 0 0, .slice none 0 0, .slice none 0 0]
  obtain ⟨r, hr⟩ : ∃ r, w.heap.size = r := ⟨_, rfl⟩
  rw [hr, List.append_assoc] at sb
  have WC := Lib.hid (cWho_c sb hv hm n0 n1 hs)
  clear H hv hs sb
  go_enter Try.func12, Try.ntmps12
  go_wp2_with fail
  refine WC.out.mono ?_
  rintro e w2 ⟨a, V2, rfl, hw, s2⟩
  have HW := Lib.hid hw
  have SC := Lib.hid (cStep_no s2 a n0 n2)
  clear WC s2 hw hr
  go_wp2_with fail
  refine SC.out.mono ?_
  rintro e w3 ⟨rfl, s3⟩
  have s4 : St w0 S0 w3 ([BlkR r 41 #[.int .i64 0, .slice none 0 0, .slice none 0 0, .slice none 0 0]] ++ (CpuL p T V2 now s ++ X)) := by
    rw [← List.append_assoc] at s3
    exact s3.comm
  obtain ⟨h0, h1, h2, h3⟩ := (s4.blk 0 rfl).four4
  have f0 := (s4.blk 0 rfl).frozen 0
  have f1 := (s4.blk 0 rfl).frozen 1
  have f2 := (s4.blk 0 rfl).frozen 2
  have f3 := (s4.blk 0 rfl).frozen 3
  have sc := (((s4.set_ 0 rfl 0 (.int .i64 0)).set_ 0 rfl 1 (.slice none 0 0)).set_ 0 rfl 2 (.slice none 0 0)).set_ 0 rfl 3 (.slice none 0 0)
  obtain ⟨y0, y1, y2, y3⟩ := (sc.blk 0 rfl).four4
  have SD := Lib.hid (sc.drop 0 (by simp))
  clear sc s3 s4 SC
  go_wp2_with fail
  refine bodyPost_ret (v := .tuple #[.agg #[.int .i64 0, .slice none 0 0, .slice none 0 0, .slice none 0 0], .int .i64 2]) ?_ rfl ⟨rfl, a, V2, HW.out, SD.out⟩
  clear f0 f1 f2 f3 h0 h1 h2 h3 SD
  generalize (((w3.setCell ⟨r, 0, none⟩ (.int .i64 0)).setCell ⟨r, 1, none⟩ (.slice none 0 0)).setCell ⟨r, 2, none⟩ (.slice none 0 0)).setCell ⟨r, 3, none⟩ (.slice none 0 0) = wz at *
  simp [results, Try.results12, go_sem, y0, y1, y2, y3]
end
end
section
set_option linter.unusedVariables false
set_option maxRecDepth 100000
set_option maxHeartbeats 1000000
theorem cMay_c (A : Option Addr) (n ca : Nat) (E : Option Addr) (m ce : Nat) (T : Nat → Wk) (x : Int) (w : World) (hT : Ts w A n T) (hn : n ≤ 9223372036854775807) (hmm : m ≤ 9223372036854775807) (x0 : 0 ≤ x)
    (EX : 0 < m → ∀ W, Below w.heap.size w W → Calls Try.prog 13 #[.slice E m ce, .int .u64 1] W fun e w' => e = .returned (.int .u64 x) ∧ Below W.heap.size W w')
    (b : Bool) (hb : b = decide (n ≤ 32 ∧ (∀ j, j < n → (T j).ok) ∧ (m = 0 ∨ 0 < x))) :
    Calls Try.prog 25 #[.slice A n ca, .slice E m ce] w fun e w' => e = .returned (.bool b) ∧ Below w.heap.size w w' := by
  have HT := Lib.hid hT
  have HEX := Lib.hid EX
  have HB := Lib.hid hb
  clear hT EX hb
  by_cases h0 : 32 < n
  · have d0 : decide (32 < (n : Int)) = true := decide_eq_true (by omega)
    have d0' : decide (32 < n) = true := decide_eq_true h0
    obtain rfl : b = false := by rw [HB.out]; exact decide_eq_false fun h => by omega
    go_enter Try.func25, Try.ntmps25
    go_wp2_with fail
    go_ret
    exact ⟨rfl, Below.refl _ _⟩
  have d0 : decide (32 < (n : Int)) = false := decide_eq_false (by omega)
  have d0' : decide (32 < n) = false := decide_eq_false h0
  go_enter Try.func25, Try.ntmps25
  go_wp2_with fail
  go_loopw [12, 6] (fun x12 x6 wr => ∃ k : Nat, k ≤ n ∧ x12 = .int .i64 k ∧ (∀ j, j < k → (T j).ok) ∧ Below w.heap.size w wr) (fun i _ _ => n - (intOf i).toNat)
  case atStart => exact ⟨0, by omega, rfl, fun j hj => by omega, Below.refl _ _⟩
  case round =>
  obtain ⟨k, hk, rfl, hok, hbl⟩ := hrel
  have OK := Lib.hid hok
  have BL := Lib.hid hbl
  clear hok hbl
  by_cases hlt : k < n
  · obtain ⟨g, off, rfl, c0, c1, c2, c3⟩ := HT.out.at_ BL.out hlt
    have z0 : decide ((k : Int) < (n : Int)) = true := decide_eq_true (by omega)
    have z0' : decide (k < n) = true := decide_eq_true hlt
    have hbx := Blk.new wr 24 #[.int .i64 (T k).prio, .int .u64 (T k).cost, .int .u64 (T k).per, .int .u64 (T k).dead]
    obtain ⟨r, hr⟩ : ∃ r, wr.heap.size = r := ⟨_, rfl⟩
    rw [hr] at hbx
    obtain ⟨q0, q1, q2, q3⟩ := hbx.four4
    have BL2 := Lib.hid (BL.out.alloc (by have := BL.out.size; omega) (.cells #[.int .i64 (T k).prio, .int .u64 (T k).cost, .int .u64 (T k).per, .int .u64 (T k).dead] 24))
    clear hbx
    go_upto_region 6 with (fail)
    generalize wr.alloc (.cells #[.int .i64 (T k).prio, .int .u64 (T k).cost, .int .u64 (T k).per, .int .u64 (T k).dead] 24) = wq at *
    clear c0 c1 c2 c3 hr
    have KO := Lib.hid (show (T k) = ⟨(T k).prio, (T k).cost, (T k).per, (T k).dead⟩ from rfl)
    by_cases hkk : (T k).ok
    · have MC := Lib.hid (fun W => wmay (T k).prio (T k).cost (T k).per (T k).dead W true (decide_eq_true hkk).symm)
      have OK2 := Lib.hid (show ∀ j, j < k + 1 → (T j).ok from fun j hj => by
        rcases Nat.lt_or_ge j k with h | h
        · exact OK.out j h
        · obtain rfl : j = k := by omega
          exact hkk)
      clear hkk
      go_wp2_with fail
      refine (MC.out _).mono ?_
      rintro e w2 ⟨rfl, hb2⟩
      have BL3 := Lib.hid (BL2.out.trans (hb2.mono (by have := BL2.out.size; omega)))
      clear hb2 MC
      go_wp2_with fail
      go_roundw
      case rel => exact ⟨k + 1, by omega, by go_num, OK2.out, BL3.out⟩
      case measure => simp [intOf]; omega
    · have MC := Lib.hid (fun W => wmay (T k).prio (T k).cost (T k).per (T k).dead W false (decide_eq_false hkk).symm)
      obtain rfl : b = false := by rw [HB.out]; exact decide_eq_false fun h => hkk (h.2.1 k hlt)
      clear hkk
      go_wp2_with fail
      refine (MC.out _).mono ?_
      rintro e w2 ⟨rfl, hb2⟩
      have BL3 := Lib.hid (BL2.out.trans (hb2.mono (by have := BL2.out.size; omega)))
      clear hb2 MC
      go_wp2_with fail
      go_ret
      exact ⟨rfl, BL3.out⟩
  · obtain rfl : k = n := by omega
    have z0 : decide ((k : Int) < (k : Int)) = false := decide_eq_false (by omega)
    rcases Nat.eq_zero_or_pos m with rfl | hm
    · obtain rfl : b = true := by rw [HB.out]; exact decide_eq_true ⟨by omega, OK.out, Or.inl rfl⟩
      clear hlt
      go_wp2_with fail
      go_ret
      exact ⟨rfl, BL.out⟩
    · have y1 : ((m : Int) == 0) = false := beq_eq_false_iff_ne.2 (by omega)
      have y1' : (m == 0) = false := beq_eq_false_iff_ne.2 (by omega)
      have EC := Lib.hid (HEX.out hm _ BL.out)
      have hbx : b = decide (0 < x) := by
        rw [HB.out]
        by_cases hx : 0 < x
        · rw [decide_eq_true hx]; exact decide_eq_true ⟨by omega, OK.out, Or.inr hx⟩
        · rw [decide_eq_false hx]; exact decide_eq_false fun h => by rcases h.2.2 with h | h <;> omega
      have y2 : decide (0 < x) = b := hbx.symm
      clear hlt hbx
      go_wp2_with fail
      refine EC.out.mono ?_
      rintro e w2 ⟨rfl, hb2⟩
      have BL3 := Lib.hid (BL.out.trans (hb2.mono (by have := BL.out.size; omega)))
      clear hb2 EC
      go_wp2_with fail
      go_ret
      exact ⟨rfl, BL3.out⟩
end
end Go.Proofs.Ytdemhhmceiaohaa
