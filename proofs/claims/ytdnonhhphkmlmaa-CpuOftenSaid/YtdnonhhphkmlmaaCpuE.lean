/- Layer 17: a processor: a job is released. -/
import Derived.Test.YtdnonhhphkmlmaaCpuD
import Derived.RegionTactic
import Derived.Deep.RegionHeld3
namespace Go.Proofs.Ytdnonhhphkmlmaa
open Go.RowKit
set_option linter.unusedVariables false
set_option maxRecDepth 100000
set_option maxHeartbeats 2000000
section
variable {w0 w : World} {S0 : Nat → Prop} {X : List Res} {p : Pl} {T T' : Nat → CTk} {V V' : Nat → Sv} {now id dem : Int} {s s' : QS}
theorem cpu_lay_at (T : Nat → CTk) (i : Nat) (t : CTk) (j k : Nat) (hk : k < 10) : (upd2 (upd2 (upd2 (upd2 (upd2 (upd2 (upd2 (upd2 (upd2 (upd2 (tkv T) i 0 (.int .i64 t.prio)) i 1 (.int .u64 t.cost)) i 2 (.int .u64 t.per)) i 3 (.int .u64 t.dead)) i 4 (.bool t.began)) i 5 (.int .u64 t.rel)) i 6 (.bool t.there)) i 7 (.int .u64 t.dem)) i 8 (.int .u64 t.ran)) i 9 (.int .u64 t.unt)) j k = tkv (updK T i t) j k := by
  by_cases e : j = i
  · subst e
    unfold tkv
    rw [updK_self]
    rcases (show k = 0 ∨ k = 1 ∨ k = 2 ∨ k = 3 ∨ k = 4 ∨ k = 5 ∨ k = 6 ∨ k = 7 ∨ k = 8 ∨ k = 9 by omega) with rfl | rfl | rfl | rfl | rfl | rfl | rfl | rfl | rfl | rfl <;> simp [upd2]
  · have : updK T i t j = T j := updK_ne T t e
    unfold tkv
    rw [this]
    simp [upd2, e]
/-- A task is laid anew whole. -/
theorem cpu_lay (H : St w0 S0 w (CpuL p T V now s ++ X)) {i g off : Nat} (hA : p.A = some ⟨g, off, none⟩) (hi : i < p.n) (t : CTk) :
    St w0 S0 ((((((((((w.setCell ⟨g, off + i * 10, none⟩ (.int .i64 t.prio)).setCell ⟨g, off + i * 10 + 1, none⟩ (.int .u64 t.cost)).setCell ⟨g, off + i * 10 + 2, none⟩ (.int .u64 t.per)).setCell ⟨g, off + i * 10 + 3, none⟩ (.int .u64 t.dead)).setCell ⟨g, off + i * 10 + 4, none⟩ (.bool t.began)).setCell ⟨g, off + i * 10 + 5, none⟩ (.int .u64 t.rel)).setCell ⟨g, off + i * 10 + 6, none⟩ (.bool t.there)).setCell ⟨g, off + i * 10 + 7, none⟩ (.int .u64 t.dem)).setCell ⟨g, off + i * 10 + 8, none⟩ (.int .u64 t.ran)).setCell ⟨g, off + i * 10 + 9, none⟩ (.int .u64 t.unt)) (CpuL p (updK T i t) V now s ++ X) := by
  obtain ⟨c, q, A, ca, n, E, ce, m⟩ := p
  dsimp only at hA hi
  subst hA
  have h0 := H.lis_set 1 rfl (k := i * 10 + 0) (by show i * 10 + 0 < n * 10; omega) (.int .i64 t.prio)
  have h1 := h0.lis_set 1 rfl (k := i * 10 + 1) (by show i * 10 + 1 < n * 10; omega) (.int .u64 t.cost)
  have h2 := h1.lis_set 1 rfl (k := i * 10 + 2) (by show i * 10 + 2 < n * 10; omega) (.int .u64 t.per)
  have h3 := h2.lis_set 1 rfl (k := i * 10 + 3) (by show i * 10 + 3 < n * 10; omega) (.int .u64 t.dead)
  have h4 := h3.lis_set 1 rfl (k := i * 10 + 4) (by show i * 10 + 4 < n * 10; omega) (.bool t.began)
  have h5 := h4.lis_set 1 rfl (k := i * 10 + 5) (by show i * 10 + 5 < n * 10; omega) (.int .u64 t.rel)
  have h6 := h5.lis_set 1 rfl (k := i * 10 + 6) (by show i * 10 + 6 < n * 10; omega) (.bool t.there)
  have h7 := h6.lis_set 1 rfl (k := i * 10 + 7) (by show i * 10 + 7 < n * 10; omega) (.int .u64 t.dem)
  have h8 := h7.lis_set 1 rfl (k := i * 10 + 8) (by show i * 10 + 8 < n * 10; omega) (.int .u64 t.ran)
  have h9 := h8.lis_set 1 rfl (k := i * 10 + 9) (by show i * 10 + 9 < n * 10; omega) (.int .u64 t.unt)
  rw [grid_set _ _ hi (show 0 < 10 by omega), grid_set _ _ hi (show 1 < 10 by omega), grid_set _ _ hi (show 2 < 10 by omega), grid_set _ _ hi (show 3 < 10 by omega), grid_set _ _ hi (show 4 < 10 by omega), grid_set _ _ hi (show 5 < 10 by omega), grid_set _ _ hi (show 6 < 10 by omega), grid_set _ _ hi (show 7 < 10 by omega), grid_set _ _ hi (show 8 < 10 by omega), grid_set _ _ hi (show 9 < 10 by omega)] at h9
  simp only [← Nat.add_assoc, Nat.add_zero] at h9
  show St w0 S0 _ (([_, LisR _ _ _ _ (grid n 10 (tkv (updK T i t))), _, _] ++ _) ++ X)
  rw [grid_like (V := tkv (updK T i t)) (fun j k hj hk => (cpu_lay_at T i t j k hk).symm)]
  exact h9
theorem cRelease_ok (H : St w0 S0 w (CpuL p T V now s ++ X)) {j : Nat} (hj : j < p.n) (hd : 0 < dem) (ht : (T j).there = false) (hp : (T j).began = true → (T j).per ≤ now - (T j).rel) (hh : now + (T j).dead < 4611686018427387904) (hT : CTkOK now (T j)) (n0 : 0 ≤ now) (n1 : now < 4611686018427387904)
    {m : Nat} (hs : s.ok m) {f : Int} (hC : ComeP s (j : Int) (T j).prio f s') :
    Calls Try.prog 14 #[.pointer (some ⟨p.c, 0, none⟩), .int .i64 (j : Int), .int .u64 dem] w fun e w' => e = .returned (.int .i64 f) ∧ St w0 S0 w' (CpuL p (updK T j (relT (T j) now dem)) V now s' ++ X) := by
  obtain ⟨b0, b1, b2, b3⟩ := cpu_box H
  have d0 : decide ((j : Int) < 0) = false := decide_eq_false (by omega)
  have d1 : decide ((p.n : Int) ≤ (j : Int)) = false := decide_eq_false (by omega)
  have d1' : decide (p.n ≤ j) = false := decide_eq_false (by omega)
  have d2 : (dem == 0) = false := beq_eq_false_iff_ne.2 (by omega)
  obtain ⟨g, off, hA, hc, hfr⟩ := cpu_task H hj
  obtain ⟨p0, p1, c0', e0', D0, D1, r0, r1⟩ := hT
  have c0 := hc 0 (by omega)
  have c1 := hc 1 (by omega)
  have c2 := hc 2 (by omega)
  have c3 := hc 3 (by omega)
  have c4 := hc 4 (by omega)
  have c5 := hc 5 (by omega)
  have c6 := hc 6 (by omega)
  rw [Nat.add_zero] at c0
  rw [hA] at b0
  unfold tkv at c0 c1 c2 c3 c4 c5 c6
  have v0 : (0 : Int) ≤ (j : Int) := by omega
  have v1 : (j : Int) < (p.n : Int) := by omega
  have HC := Lib.hid (show ∀ k, (w.drewN k).cell? ⟨p.c, 2, none⟩ = some (.pointer (some ⟨p.q, 0, none⟩)) ∧ (w.drewN k).cell? ⟨p.c, 3, none⟩ = some (.int .u64 now) ∧ (∀ i, i < 10 → (w.drewN k).cell? ⟨g, off + j * 10 + i, none⟩ = some (tkv T j i)) ∧ ∀ o, (w.drewN k).frozen? ⟨g, o, none⟩ = false from fun k => ⟨b2, b3, hc, hfr⟩)
  have AD := Lib.hid (fun w => add_ok now (T j).dead w n0 D0 (by omega) hh)
  have HH := Lib.hid H
  have HA := Lib.hid hA
  have HT := Lib.hid (show ∀ i, tkv T j i = tkv (fun _ => T j) 0 i from fun i => rfl)
  have w1 : IntKind.u64.wrap (now - (T j).rel) = now - (T j).rel := IntWalk.u64_in _ ⟨by omega, by omega⟩
  have CO := Lib.hid hC
  have HS := Lib.hid hs
  rw [ht] at c6
  clear H hc hfr hC hs hA b2
  cases hb : (T j).began with
  | true =>
    have y1 : decide (now - (T j).rel < (T j).per) = false := decide_eq_false (by have := hp hb; omega)
    rw [hb] at c4
    clear hp hb ht
    go_enter Try.func14, Try.ntmps14
    go_wp2_with fail
    go_quiet (fail)
    obtain ⟨z2, z3, zc, zf⟩ := HC.out nq
    have HQ := Lib.hid (HH.out.drewN nq)
    clear b3 c0 c1 c2 c3 c4 c5 c6 HC HH
    generalize w.drewN nq = wq at *
    have c3 := zc 3 (by omega)
    have HZ := Lib.hid (show ∀ k, (wq.drewN k).cell? ⟨p.c, 2, none⟩ = some (.pointer (some ⟨p.q, 0, none⟩)) ∧ (wq.drewN k).cell? ⟨p.c, 3, none⟩ = some (.int .u64 now) ∧ (∀ i, i < 10 → (wq.drewN k).cell? ⟨g, off + j * 10 + i, none⟩ = some (tkv T j i)) ∧ ∀ o, (wq.drewN k).frozen? ⟨g, o, none⟩ = false from fun k => ⟨z2, z3, zc, zf⟩)
    unfold tkv at c3
    clear z2 zc zf
    go_wp2_with fail
    go_quiet ((go_at_call 28; exact q_left (AD.out _)))
    obtain ⟨z2, z3, zc, zf⟩ := HZ.out nq
    have HQ := Lib.hid (HQ.out.drewN nq)
    clear c3 HZ AD
    generalize wq.drewN nq = wr at *
    have c0 := zc 0 (by omega)
    have c1 := zc 1 (by omega)
    have c2 := zc 2 (by omega)
    have c3 := zc 3 (by omega)
    have c4 := zc 4 (by omega)
    have c5 := zc 5 (by omega)
    have c6 := zc 6 (by omega)
    have c7 := zc 7 (by omega)
    have c8 := zc 8 (by omega)
    have c9 := zc 9 (by omega)
    rw [Nat.add_zero] at c0
    unfold tkv at c0 c1 c2 c3 c4 c5 c6 c7 c8 c9
    clear zc
    go_wp2_with fail
    go_region
    obtain ⟨t, ht⟩ : ∃ t, relT (T j) now dem = t := ⟨_, rfl⟩
    have HT2 := Lib.hid ht
    have s2 := (cpu_lay HQ.out HA.out hj t).drew
    rw [show t.prio = (T j).prio by rw [← ht]; rfl, show t.cost = (T j).cost by rw [← ht]; rfl, show t.per = (T j).per by rw [← ht]; rfl, show t.dead = (T j).dead by rw [← ht]; rfl, show t.began = true by rw [← ht]; rfl, show t.rel = now by rw [← ht]; rfl, show t.there = true by rw [← ht]; rfl, show t.dem = dem by rw [← ht]; rfl, show t.ran = 0 by rw [← ht]; rfl, show t.unt = now + (T j).dead by rw [← ht]; rfl] at s2
    have S2 := Lib.hid s2
    have PR := Lib.hid (show t.prio = (T j).prio by rw [← ht]; rfl)
    clear s2 ht
    have q2 := (cpu_box S2.out).2.2.1
    obtain ⟨g', off', hA', hc', -⟩ := cpu_task S2.out hj
    obtain ⟨rfl, rfl⟩ : g = g' ∧ off = off' := by rw [HA.out] at hA'; simpa using hA'
    have q0 := hc' 0 (by omega)
    rw [Nat.add_zero (off + j * 10)] at q0
    unfold tkv at q0
    rw [updK_self] at q0
    rw [PR.out] at q0
    have GET := Lib.hid (fun (W : World) (s2 : QS) (K : St w0 S0 W (CpuL p (updK T j t) V now s2 ++ X)) => show W.cell? ⟨p.c, 2, none⟩ = some (.pointer (some ⟨p.q, 0, none⟩)) ∧ W.cell? ⟨g, off + j * 10, none⟩ = some (.int .i64 (T j).prio) from by
      obtain ⟨g', off', hA', hc', -⟩ := cpu_task K hj
      obtain ⟨rfl, rfl⟩ : g = g' ∧ off = off' := by rw [HA.out] at hA'; simpa using hA'
      have q0 := hc' 0 (by omega)
      rw [Nat.add_zero (off + j * 10)] at q0
      unfold tkv at q0
      rw [updK_self, PR.out] at q0
      exact ⟨(cpu_box K).2.2.1, q0⟩)
    generalize ((((((((((wr.setCell ⟨g, off + j * 10, none⟩ (.int .i64 (T j).prio)).setCell ⟨g, off + j * 10 + 1, none⟩ (.int .u64 (T j).cost)).setCell ⟨g, off + j * 10 + 2, none⟩ (.int .u64 (T j).per)).setCell ⟨g, off + j * 10 + 3, none⟩ (.int .u64 (T j).dead)).setCell ⟨g, off + j * 10 + 4, none⟩ (.bool true)).setCell ⟨g, off + j * 10 + 5, none⟩ (.int .u64 now)).setCell ⟨g, off + j * 10 + 6, none⟩ (.bool true)).setCell ⟨g, off + j * 10 + 7, none⟩ (.int .u64 dem)).setCell ⟨g, off + j * 10 + 8, none⟩ (.int .u64 0)).setCell ⟨g, off + j * 10 + 9, none⟩ (.int .u64 (now + (T j).dead))).drew = wq at *
    have qq := And.intro q2 q0
    clear hc' hA' z2 z3 zf c0 c1 c2 c3 c4 c5 c6 c7 c8 c9 HQ HT
    go_wp2_with fail
    go_region_held3 (fun w' => w'.cell? ⟨p.c, 2, none⟩ = some (.pointer (some ⟨p.q, 0, none⟩)) ∧ w'.cell? ⟨g, off + j * 10, none⟩ = some (.int .i64 (T j).prio)) (go_keep)
      (first
        | (go_at_call 29; refine (Come_o (i := 3) S2.out.drew rfl HS.out (j : Int) (T j).prio f CO.out).mono ?_; rintro r' w6 ⟨rfl, s6⟩; have S6 := Lib.hid (show St w0 S0 w6 (CpuL p (updK T j t) V now s' ++ X) from s6); have q6 := GET.out w6 s' S6.out; clear s6))
    go_wp2_with fail
    go_ret
    exact ⟨rfl, by rw [HT2.out]; exact S6.out⟩
  | false =>
    rw [hb] at c4
    clear hp hb ht
    go_enter Try.func14, Try.ntmps14
    go_wp2_with fail
    go_quiet (fail)
    obtain ⟨z2, z3, zc, zf⟩ := HC.out nq
    have HQ := Lib.hid (HH.out.drewN nq)
    clear b3 c0 c1 c2 c3 c4 c5 c6 HC HH
    generalize w.drewN nq = wq at *
    have c3 := zc 3 (by omega)
    have HZ := Lib.hid (show ∀ k, (wq.drewN k).cell? ⟨p.c, 2, none⟩ = some (.pointer (some ⟨p.q, 0, none⟩)) ∧ (wq.drewN k).cell? ⟨p.c, 3, none⟩ = some (.int .u64 now) ∧ (∀ i, i < 10 → (wq.drewN k).cell? ⟨g, off + j * 10 + i, none⟩ = some (tkv T j i)) ∧ ∀ o, (wq.drewN k).frozen? ⟨g, o, none⟩ = false from fun k => ⟨z2, z3, zc, zf⟩)
    unfold tkv at c3
    clear z2 zc zf
    go_wp2_with fail
    go_quiet ((go_at_call 28; exact q_left (AD.out _)))
    obtain ⟨z2, z3, zc, zf⟩ := HZ.out nq
    have HQ := Lib.hid (HQ.out.drewN nq)
    clear c3 HZ AD
    generalize wq.drewN nq = wr at *
    have c0 := zc 0 (by omega)
    have c1 := zc 1 (by omega)
    have c2 := zc 2 (by omega)
    have c3 := zc 3 (by omega)
    have c4 := zc 4 (by omega)
    have c5 := zc 5 (by omega)
    have c6 := zc 6 (by omega)
    have c7 := zc 7 (by omega)
    have c8 := zc 8 (by omega)
    have c9 := zc 9 (by omega)
    rw [Nat.add_zero] at c0
    unfold tkv at c0 c1 c2 c3 c4 c5 c6 c7 c8 c9
    clear zc
    go_wp2_with fail
    go_region
    obtain ⟨t, ht⟩ : ∃ t, relT (T j) now dem = t := ⟨_, rfl⟩
    have HT2 := Lib.hid ht
    have s2 := (cpu_lay HQ.out HA.out hj t).drew
    rw [show t.prio = (T j).prio by rw [← ht]; rfl, show t.cost = (T j).cost by rw [← ht]; rfl, show t.per = (T j).per by rw [← ht]; rfl, show t.dead = (T j).dead by rw [← ht]; rfl, show t.began = true by rw [← ht]; rfl, show t.rel = now by rw [← ht]; rfl, show t.there = true by rw [← ht]; rfl, show t.dem = dem by rw [← ht]; rfl, show t.ran = 0 by rw [← ht]; rfl, show t.unt = now + (T j).dead by rw [← ht]; rfl] at s2
    have S2 := Lib.hid s2
    have PR := Lib.hid (show t.prio = (T j).prio by rw [← ht]; rfl)
    clear s2 ht
    have q2 := (cpu_box S2.out).2.2.1
    obtain ⟨g', off', hA', hc', -⟩ := cpu_task S2.out hj
    obtain ⟨rfl, rfl⟩ : g = g' ∧ off = off' := by rw [HA.out] at hA'; simpa using hA'
    have q0 := hc' 0 (by omega)
    rw [Nat.add_zero (off + j * 10)] at q0
    unfold tkv at q0
    rw [updK_self] at q0
    rw [PR.out] at q0
    have GET := Lib.hid (fun (W : World) (s2 : QS) (K : St w0 S0 W (CpuL p (updK T j t) V now s2 ++ X)) => show W.cell? ⟨p.c, 2, none⟩ = some (.pointer (some ⟨p.q, 0, none⟩)) ∧ W.cell? ⟨g, off + j * 10, none⟩ = some (.int .i64 (T j).prio) from by
      obtain ⟨g', off', hA', hc', -⟩ := cpu_task K hj
      obtain ⟨rfl, rfl⟩ : g = g' ∧ off = off' := by rw [HA.out] at hA'; simpa using hA'
      have q0 := hc' 0 (by omega)
      rw [Nat.add_zero (off + j * 10)] at q0
      unfold tkv at q0
      rw [updK_self, PR.out] at q0
      exact ⟨(cpu_box K).2.2.1, q0⟩)
    generalize ((((((((((wr.setCell ⟨g, off + j * 10, none⟩ (.int .i64 (T j).prio)).setCell ⟨g, off + j * 10 + 1, none⟩ (.int .u64 (T j).cost)).setCell ⟨g, off + j * 10 + 2, none⟩ (.int .u64 (T j).per)).setCell ⟨g, off + j * 10 + 3, none⟩ (.int .u64 (T j).dead)).setCell ⟨g, off + j * 10 + 4, none⟩ (.bool true)).setCell ⟨g, off + j * 10 + 5, none⟩ (.int .u64 now)).setCell ⟨g, off + j * 10 + 6, none⟩ (.bool true)).setCell ⟨g, off + j * 10 + 7, none⟩ (.int .u64 dem)).setCell ⟨g, off + j * 10 + 8, none⟩ (.int .u64 0)).setCell ⟨g, off + j * 10 + 9, none⟩ (.int .u64 (now + (T j).dead))).drew = wq at *
    have qq := And.intro q2 q0
    clear hc' hA' z2 z3 zf c0 c1 c2 c3 c4 c5 c6 c7 c8 c9 HQ HT
    go_wp2_with fail
    go_region_held3 (fun w' => w'.cell? ⟨p.c, 2, none⟩ = some (.pointer (some ⟨p.q, 0, none⟩)) ∧ w'.cell? ⟨g, off + j * 10, none⟩ = some (.int .i64 (T j).prio)) (go_keep)
      (first
        | (go_at_call 29; refine (Come_o (i := 3) S2.out.drew rfl HS.out (j : Int) (T j).prio f CO.out).mono ?_; rintro r' w6 ⟨rfl, s6⟩; have S6 := Lib.hid (show St w0 S0 w6 (CpuL p (updK T j t) V now s' ++ X) from s6); have q6 := GET.out w6 s' S6.out; clear s6))
    go_wp2_with fail
    go_ret
    exact ⟨rfl, by rw [HT2.out]; exact S6.out⟩
end
end Go.Proofs.Ytdnonhhphkmlmaa
