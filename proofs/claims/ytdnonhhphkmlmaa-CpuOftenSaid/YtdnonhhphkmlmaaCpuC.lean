/- Layer 17: a processor: Now, Work, Job, Wake. -/
import Derived.Test.YtdnonhhphkmlmaaCpuM
import Derived.BigQuiet
namespace Go.Proofs.Ytdnonhhphkmlmaa
open Go.RowKit
set_option linter.unusedVariables false
set_option maxRecDepth 100000
set_option maxHeartbeats 1000000
section
variable {w0 w : World} {S0 : Nat → Prop} {X : List Res} {p : Pl} {T T' : Nat → CTk} {V V' : Nat → Sv} {now id x : Int} {s : QS}
theorem cNow_c (H : St w0 S0 w (CpuL p T V now s ++ X)) : Calls Try.prog 22 #[.pointer (some ⟨p.c, 0, none⟩)] w fun e w' => e = .returned (.int .u64 now) ∧ w' = w := by
  obtain ⟨b0, b1, b2, b3⟩ := cpu_box H
  clear H
  go_enter Try.func22, Try.ntmps22
  go_wp2_with fail
  go_ret
  exact ⟨rfl, rfl⟩
/-- A task's job, as it is told. -/
def jobA (n : Nat) (T : Nat → CTk) (id : Int) : Int × Int × Bool := if 0 ≤ id ∧ id < n ∧ (T id.toNat).there = true then ((T id.toNat).ran, (T id.toNat).unt, true) else (0, 0, false)
theorem cJob_c (H : St w0 S0 w (CpuL p T V now s ++ X)) : Calls Try.prog 15 #[.pointer (some ⟨p.c, 0, none⟩), .int .i64 id] w fun e w' => e = .returned (.tuple #[.int .u64 (jobA p.n T id).1, .int .u64 (jobA p.n T id).2.1, .bool (jobA p.n T id).2.2]) ∧ St w0 S0 w' (CpuL p T V now s ++ X) := by
  obtain ⟨b0, b1, b2, b3⟩ := cpu_box H
  have HH := Lib.hid H
  by_cases h0 : id < 0
  · have e : jobA p.n T id = (0, 0, false) := if_neg (by omega)
    rw [e]
    have d0 : decide (id < 0) = true := decide_eq_true h0
    clear H h0 e
    go_enter Try.func15, Try.ntmps15
    go_wp2_with fail
    refine bodyPost_ret (v := .tuple #[.int .u64 0, .int .u64 0, .bool false]) ?_ rfl ⟨rfl, HH.out⟩
    simp [results, Try.results15, go_sem]
  have d0 : decide (id < 0) = false := decide_eq_false h0
  obtain ⟨j, rfl⟩ : ∃ j : Nat, id = (j : Int) := ⟨id.toNat, by omega⟩
  by_cases h1 : j < p.n
  · obtain ⟨g, off, hA, hc, hf⟩ := cpu_task H h1
    have c6 := hc 6 (by omega)
    have c8 := hc 8 (by omega)
    have c9 := hc 9 (by omega)
    rw [hA] at b0
    unfold tkv at c6 c8 c9
    have d1 : decide ((p.n : Int) ≤ (j : Int)) = false := decide_eq_false (by omega)
    have d1' : decide (p.n ≤ j) = false := decide_eq_false (by omega)
    have v0 : (0 : Int) ≤ (j : Int) := by omega
    have v1 : (j : Int) < (p.n : Int) := by omega
    cases ht : (T j).there with
    | false =>
      have e : jobA p.n T (j : Int) = (0, 0, false) := if_neg (by rw [Int.toNat_natCast, ht]; simp)
      rw [e]
      rw [ht] at c6
      clear H hc hf hA h0 e ht
      go_enter Try.func15, Try.ntmps15
      go_wp2_with fail
      refine bodyPost_ret (v := .tuple #[.int .u64 0, .int .u64 0, .bool false]) ?_ rfl ⟨rfl, HH.out⟩
      simp [results, Try.results15, go_sem]
    | true =>
      have e : jobA p.n T (j : Int) = ((T j).ran, (T j).unt, true) := if_pos (by rw [Int.toNat_natCast, ht]; exact ⟨by omega, by omega, rfl⟩)
      rw [e]
      rw [ht] at c6
      clear H hc hf hA h0 e ht
      generalize (T j).ran = a at *
      generalize (T j).unt = b at *
      go_enter Try.func15, Try.ntmps15
      go_wp2_with fail
      go_quiet (fail)
      go_wp2_with fail
      refine bodyPost_ret (v := .tuple #[.int .u64 a, .int .u64 b, .bool true]) ?_ rfl ⟨rfl, HH.out.drewN _⟩
      simp [results, Try.results15, go_sem]
  · have e : jobA p.n T (j : Int) = (0, 0, false) := if_neg (by omega)
    rw [e]
    have d1 : decide ((p.n : Int) ≤ (j : Int)) = true := decide_eq_true (by omega)
    have d1' : decide (p.n ≤ j) = true := decide_eq_true (by omega)
    clear H h0 e
    go_enter Try.func15, Try.ntmps15
    go_wp2_with fail
    refine bodyPost_ret (v := .tuple #[.int .u64 0, .int .u64 0, .bool false]) ?_ rfl ⟨rfl, HH.out⟩
    simp [results, Try.results15, go_sem]
def workA (m : Nat) (V : Nat → Sv) (id : Int) : Int := if 0 ≤ id ∧ id < m then (V id.toNat).work else 0
theorem cWork_c (H : St w0 S0 w (CpuL p T V now s ++ X)) : Calls Try.prog 19 #[.pointer (some ⟨p.c, 0, none⟩), .int .i64 id] w fun e w' => e = .returned (.int .u64 (workA p.m V id)) ∧ w' = w := by
  obtain ⟨b0, b1, b2, b3⟩ := cpu_box H
  by_cases h0 : id < 0
  · have e : workA p.m V id = 0 := if_neg (by omega)
    rw [e]
    have d0 : decide (id < 0) = true := decide_eq_true h0
    clear H h0 e
    go_enter Try.func19, Try.ntmps19
    go_wp2_with fail
    go_ret
    exact ⟨rfl, rfl⟩
  have d0 : decide (id < 0) = false := decide_eq_false h0
  obtain ⟨j, rfl⟩ : ∃ j : Nat, id = (j : Int) := ⟨id.toNat, by omega⟩
  by_cases h1 : j < p.m
  · obtain ⟨g, off, hA, c0, c1, hf⟩ := cpu_server H h1
    rw [hA] at b1
    have d1 : decide ((p.m : Int) ≤ (j : Int)) = false := decide_eq_false (by omega)
    have d1' : decide (p.m ≤ j) = false := decide_eq_false (by omega)
    have v0 : (0 : Int) ≤ (j : Int) := by omega
    have v1 : (j : Int) < (p.m : Int) := by omega
    have e : workA p.m V (j : Int) = (V j).work := if_pos (by omega)
    rw [e]
    clear H hf hA h0 e
    go_enter Try.func19, Try.ntmps19
    go_wp2_with fail
    go_ret
    exact ⟨rfl, rfl⟩
  · have e : workA p.m V (j : Int) = 0 := if_neg (by omega)
    rw [e]
    have d1 : decide ((p.m : Int) ≤ (j : Int)) = true := decide_eq_true (by omega)
    have d1' : decide (p.m ≤ j) = true := decide_eq_true (by omega)
    clear H h0 e
    go_enter Try.func19, Try.ntmps19
    go_wp2_with fail
    go_ret
    exact ⟨rfl, rfl⟩
/-- What Wake does. -/
def wakeA (m : Nat) (id : Int) : Int := if 0 ≤ id ∧ id < m then 0 else 1
def wakeV (m : Nat) (V : Nat → Sv) (id x : Int) : Nat → Sv := if 0 ≤ id ∧ id < m then updK V id.toNat { V id.toNat with work := (V id.toNat).work + min x (1048576 - (V id.toNat).work) } else V
theorem cWake_c (H : St w0 S0 w (CpuL p T V now s ++ X)) (hw : ∀ j, j < p.m → 0 ≤ (V j).work ∧ (V j).work ≤ 1048576) (hx : 0 ≤ x) : Calls Try.prog 16 #[.pointer (some ⟨p.c, 0, none⟩), .int .i64 id, .int .u64 x] w fun e w' => e = .returned (.int .i64 (wakeA p.m id)) ∧ St w0 S0 w' (CpuL p T (wakeV p.m V id x) now s ++ X) := by
  obtain ⟨b0, b1, b2, b3⟩ := cpu_box H
  have HH := Lib.hid H
  by_cases h0 : id < 0
  · have e : wakeA p.m id = 1 := if_neg (by omega)
    have e2 : wakeV p.m V id x = V := if_neg (by omega)
    rw [e, e2]
    have d0 : decide (id < 0) = true := decide_eq_true h0
    clear H h0 e e2 hw
    go_enter Try.func16, Try.ntmps16
    go_wp2_with fail
    go_ret
    exact ⟨rfl, HH.out⟩
  have d0 : decide (id < 0) = false := decide_eq_false h0
  obtain ⟨j, rfl⟩ : ∃ j : Nat, id = (j : Int) := ⟨id.toNat, by omega⟩
  by_cases h1 : j < p.m
  · obtain ⟨g, off, hA, c0, c1, hf⟩ := cpu_server H h1
    have hwj := hw j h1
    rw [hA] at b1
    have HA := Lib.hid hA
    have d1 : decide ((p.m : Int) ≤ (j : Int)) = false := decide_eq_false (by omega)
    have d1' : decide (p.m ≤ j) = false := decide_eq_false (by omega)
    have v0 : (0 : Int) ≤ (j : Int) := by omega
    have v1 : (j : Int) < (p.m : Int) := by omega
    have e : wakeA p.m (j : Int) = 0 := if_pos (by omega)
    have e2 : wakeV p.m V (j : Int) x = updK V j { V j with work := (V j).work + min x (1048576 - (V j).work) } := if_pos (by omega)
    rw [e, e2]
    have f1 := hf (off + j * 2 + 1)
    obtain ⟨y, hy⟩ : ∃ y, (V j).work = y := ⟨_, rfl⟩
    rw [hy] at c1 hwj
    have w1 : IntKind.u64.wrap (1048576 - y) = 1048576 - y := IntWalk.u64_in _ ⟨by omega, by omega⟩
    have w2 : (if x < 1048576 - y then x else 1048576 - y) = min x (1048576 - y) := by split <;> omega
    have w2' : (if 1048576 - y < x then 1048576 - y else x) = min x (1048576 - y) := by split <;> omega
    have w3 : IntKind.u64.wrap (y + min x (1048576 - y)) = y + min x (1048576 - y) := IntWalk.u64_in _ ⟨by omega, by omega⟩
    have FIN := Lib.hid (cpu_wset HH.out HA.out h1 (y + min x (1048576 - y))).drew
    rw [hy]
    clear H hf hA h0 e e2 hw hy
    go_enter Try.func16, Try.ntmps16
    go_wp2_with fail
    go_region
    go_wp2_with fail
    go_ret
    exact ⟨rfl, FIN.out⟩
  · have e : wakeA p.m (j : Int) = 1 := if_neg (by omega)
    have e2 : wakeV p.m V (j : Int) x = V := if_neg (by omega)
    rw [e, e2]
    have d1 : decide ((p.m : Int) ≤ (j : Int)) = true := decide_eq_true (by omega)
    have d1' : decide (p.m ≤ j) = true := decide_eq_true (by omega)
    clear H h0 e e2 hw
    go_enter Try.func16, Try.ntmps16
    go_wp2_with fail
    go_ret
    exact ⟨rfl, HH.out⟩
end
end Go.Proofs.Ytdnonhhphkmlmaa
