/- Layer 19: a book: Open. -/
import Derived.Test.YthdhfjcgboglfaaLifeF
namespace Go.Proofs.Ythdhfjcgboglfaa
open Go.RowKit
set_option linter.unusedVariables false
set_option maxRecDepth 100000
set_option maxHeartbeats 4000000
section
variable {w0 w w' : World} {S0 : Nat → Prop} {L X : List Res} {b cw mb cap : Nat} {A : Option Addr} {s : Bk} {id dead : Int}
theorem lOpen_no (H : St w0 S0 w (BookL b cw mb A cap s ++ X)) (ok : s.ok) (hid : wfI id) (h0 : 0 ≤ dead) (h1 : dead ≤ 18446744073709551615) (hne : opnA s id dead ≠ 0) : Calls Try.prog 11 #[.pointer (some ⟨b, 0, none⟩), .int .i64 id, .int .u64 dead] w fun e w' => e = .returned (.int .i64 (opnA s id dead)) ∧ St w0 S0 w' (BookL b cw mb A cap s ++ X) := by
  obtain ⟨a, ha⟩ : ∃ a, opnA s id dead = a := ⟨_, rfl⟩
  rw [ha] at hne ⊢
  unfold opnA at ha
  obtain ⟨t0, d0, ex, hex, lk⟩ : ∃ t0 d0 ex, (slotO s.op id).isSome = ex ∧ (Instr.lookup 62 (.map (some mb)) (.int .i64 id) true).run Try.prog w = .ok (.tuple #[.agg #[.int .i64 t0, .int .u64 d0], .bool ex]) w := by
    have lk := bk_look H hid
    cases hs : slotO s.op id with
    | none =>
      have e2 : mapO s.op id = none := by unfold mapO; rw [hs]; rfl
      rw [hs, e2] at lk
      exact ⟨0, 0, false, rfl, lk⟩
    | some k =>
      have e2 : mapO s.op id = some (mapF s.op k) := by unfold mapO; rw [hs]; rfl
      rw [hs, e2] at lk
      exact ⟨_, _, true, rfl, lk⟩
  rw [hex] at ha
  have c2 := bk_cell H (j := 2) (by omega)
  unfold bkV at c2
  rw [if_neg (by omega), if_neg (by omega), if_pos rfl] at c2
  have s2 := H.alloc (.cells #[.int .i64 t0, .int .u64 d0] 67)
  have S2 := Lib.hid s2
  have MY := Lib.hid (fun w => may_any dead w)
  by_cases g0 : id < 0
  · rw [if_pos (Or.inl g0)] at ha
    subst ha
    have z0 : decide (id < 0) = true := decide_eq_true g0
    clear H ok hex s2
    go_enter Try.func11, Try.ntmps11
    go_wp2_with fail
    go_ret
    exact ⟨rfl, S2.out⟩
  have z0 : decide (id < 0) = false := decide_eq_false g0
  by_cases g1 : 65535 < id
  · rw [if_pos (Or.inr g1)] at ha
    subst ha
    have z1 : decide (65535 < id) = true := decide_eq_true g1
    clear H ok hex s2
    go_enter Try.func11, Try.ntmps11
    go_wp2_with fail
    go_ret
    exact ⟨rfl, S2.out⟩
  have z1 : decide (65535 < id) = false := decide_eq_false g1
  rw [if_neg (by omega)] at ha
  by_cases g2 : 4611686018427387904 ≤ dead
  · rw [if_pos g2] at ha
    subst ha
    rw [show decide (dead < 4611686018427387904) = false from decide_eq_false (by omega)] at MY
    clear H ok hex s2
    go_enter Try.func11, Try.ntmps11
    go_wp2_with fail
    refine (MY.out _).mono ?_
    rintro e w1 ⟨rfl, rfl⟩
    go_wp2_with fail
    go_ret
    exact ⟨rfl, S2.out⟩
  rw [if_neg g2] at ha
  rw [show decide (dead < 4611686018427387904) = true from decide_eq_true (by omega)] at MY
  cases ex with
  | true =>
    rw [if_pos rfl] at ha
    subst ha
    clear H ok hex s2
    go_enter Try.func11, Try.ntmps11
    go_wp2_with fail
    refine (MY.out _).mono ?_
    rintro e w1 ⟨rfl, rfl⟩
    go_wp2_with fail
    go_ret
    exact ⟨rfl, S2.out⟩
  | false =>
  rw [if_neg (by decide)] at ha
  have ln := (s2.mapz 2 rfl).len Try.underlying62
  have d2 := bk_cell s2 (j := 2) (by omega)
  unfold bkV at d2
  rw [if_neg (by omega), if_neg (by omega), if_pos rfl] at d2
  by_cases g3 : cntO s.op = 64
  · rw [if_pos g3] at ha
    subst ha
    rw [g3] at ln
    clear H ok hex s2
    go_enter Try.func11, Try.ntmps11
    go_wp2_with fail
    refine (MY.out _).mono ?_
    rintro e w1 ⟨rfl, rfl⟩
    go_wp2_with fail
    go_ret
    exact ⟨rfl, S2.out⟩
  rw [if_neg g3] at ha
  by_cases g4 : dead ≤ s.now + s.cost
  · rw [if_pos g4] at ha
    subst ha
    have c0' := ok.c0
    have n0' := ok.n0
    obtain ⟨l, hl⟩ : ∃ l, lftO s.now dead = l := ⟨_, rfl⟩
    have zl : decide (l ≤ s.cost) = true := decide_eq_true (by rw [← hl]; unfold lftO; split <;> omega)
    have e0 := bk_cell s2.drew (j := 0) (by omega)
    have e1 := bk_cell s2.drew (j := 1) (by omega)
    unfold bkV at e0 e1
    rw [if_pos rfl] at e0
    rw [if_neg (by omega), if_pos rfl] at e1
    have NW := Lib.hid (bNow_q s2.drew 1 rfl)
    have LF := Lib.hid (left_o s.now dead ((w.alloc (.cells #[.int .i64 t0, .int .u64 d0] 67)).drew) n0' h1)
    rw [hl] at LF
    have z3 : ((cntO s.op : Int) == 64) = false := beq_eq_false_iff_ne.2 (by omega)
    have z3' : (cntO s.op == 64) = false := beq_eq_false_iff_ne.2 g3
    clear H ok hex s2 g4 hl
    generalize s.now = now at *
    generalize s.cost = cost at *
    go_enter Try.func11, Try.ntmps11
    go_wp2_with fail
    refine (MY.out _).mono ?_
    rintro e w1 ⟨rfl, rfl⟩
    go_wp2_with fail
    go_cut [37] (fun x37 wx => x37 = .bool true ∧ wx = (w.alloc (.cells #[.int .i64 t0, .int .u64 d0] 67)).drew)
    case first =>
      go_region_law (first
        | (go_simp; refine NW.out.mono ?_; rintro e3 w3 ⟨rfl, rfl⟩)
        | (go_simp; refine LF.out.mono ?_; rintro e3 w3 ⟨rfl, rfl⟩))
      all_goals
        go_wp2_with fail
        go_meet
        exact ⟨rfl, rfl⟩
    case rest =>
    obtain ⟨rfl, rfl⟩ := hcut
    go_wp2_with fail
    go_ret
    exact ⟨rfl, S2.out.drew⟩
  rw [if_neg g4] at ha
  exact absurd ha.symm hne
end
end Go.Proofs.Ythdhfjcgboglfaa
