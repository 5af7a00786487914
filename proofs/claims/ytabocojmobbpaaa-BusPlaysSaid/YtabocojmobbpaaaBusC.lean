/- Layer 6: a bus in memory: its masters, their meters. -/
import Derived.Test.YtabocojmobbpaaaBusM
import Derived.Test.YtabocojmobbpaaaFam
import Derived.Test.YtabocojmobbpaaaShareX
import Derived.Test.YtabocojmobbpaaaRd
namespace Go.Proofs.Ytabocojmobbpaaa
open Go.RowKit
set_option linter.unusedVariables false
set_option maxRecDepth 100000
set_option maxHeartbeats 400000
/-- A meter that was asked at M at the latest. -/
def MetE (b : Nat) (B P ph : Int) (ws : List (Int × Int)) (M : Int) : Res := fun w S => ∃ N, N ≤ M ∧ XOK B P ph N ws ∧ MetR b B P ph N ws w S
theorem MetE.ok (b : Nat) (B P ph : Int) (ws : List (Int × Int)) (M : Int) : Ok (MetE b B P ph ws M) :=
  ⟨fun ⟨N, _, _, h⟩ => (MetR.ok _ _ _ _ _ _).lt h, fun ⟨N, h1, h2, h⟩ hk => ⟨N, h1, h2, (MetR.ok _ _ _ _ _ _).frame h hk⟩⟩
theorem MetE.later {b : Nat} {B P ph : Int} {ws : List (Int × Int)} {M M' : Int} {w : World} {S : Nat → Prop} (h : M ≤ M') (hm : MetE b B P ph ws M w S) : MetE b B P ph ws M' w S := by
  obtain ⟨N, h1, h2⟩ := hm; exact ⟨N, Int.le_trans h1 h, h2⟩
theorem mete_left {b : Nat} {B P ph now : Int} {ws : List (Int × Int)} (hnow : now < 4611686018427387904) : ∀ w S, MetE b B P ph ws now w S →
    Calls Try.prog 37 #[.pointer (some ⟨b, 0, none⟩), .int .u64 now] w fun e w' => e = .returned (.tuple #[.int .u64 (B - sw ((now - ph) / P) ws), .int .i64 0]) ∧ ∃ S', MetE b B P ph ws now w' S' ∧ Did S S' w w' := by
  rintro w S ⟨N, hN, ho, h⟩
  have hR : LeftR B P ph N ws now (B - sw ((now - ph) / P) ws) 0 now := Or.inr (Or.inr ⟨hnow, hN, rfl, rfl, rfl⟩)
  refine (met_left (St.start (Star.one (MetR.ok _ _ _ _ _ _) h)) 0 rfl ho hR).mono ?_
  rintro e w' ⟨he, s⟩
  exact ⟨he, s.fin fun S' h' => ⟨now, Int.le_refl _, hR.xok ho, star_one h'⟩⟩
theorem mete_take {b : Nat} {B P ph now : Int} {ws : List (Int × Int)} (hnow : now < 4611686018427387904) (hl : 0 < B - sw ((now - ph) / P) ws) : ∀ w S, MetE b B P ph ws now w S →
    Calls Try.prog 38 #[.pointer (some ⟨b, 0, none⟩), .int .u64 now, .int .u64 1] w fun e w' => e = .returned (.tuple #[.int .u64 1, .int .i64 0]) ∧ ∃ S', MetE b B P ph (ws ++ [((now - ph) / P, 1)]) now w' S' ∧ Did S S' w w' := by
  rintro w S ⟨N, hN, ho, h⟩
  have hR : TakeR B P ph N ws now 1 1 0 now (ws ++ [((now - ph) / P, 1)]) := ⟨_, Or.inr (Or.inr ⟨hnow, hN, rfl, rfl, rfl⟩), Or.inr ⟨rfl, by unfold mn; split <;> omega, rfl⟩⟩
  refine (met_take (St.start (Star.one (MetR.ok _ _ _ _ _ _) h)) 0 rfl ho (by omega) hR).mono ?_
  rintro e w' ⟨he, s⟩
  exact ⟨he, s.fin fun S' h' => ⟨now, Int.le_refl _, hR.xok (by omega) ho, star_one h'⟩⟩
/-- A master's cells. -/
def mcell (C : BC) (mp : Nat → Nat) (st : Nat → Int) (k : Nat) : Value :=
  if k % 6 = 0 then .int .i64 (C.prio (k / 6)) else if k % 6 = 1 then .int .i64 (C.burst (k / 6)) else if k % 6 = 2 then .int .u64 (C.B (k / 6)) else if k % 6 = 3 then .int .u64 (C.P (k / 6)) else
  if k % 6 = 4 then .pointer (some ⟨mp (k / 6), 0, none⟩) else .int .i64 (st (k / 6))
theorem mcell_at (C : BC) (mp : Nat → Nat) (st : Nat → Int) (i : Nat) : mcell C mp st (i * 6) = .int .i64 (C.prio i) ∧ mcell C mp st (i * 6 + 1) = .int .i64 (C.burst i) ∧ mcell C mp st (i * 6 + 2) = .int .u64 (C.B i) ∧
    mcell C mp st (i * 6 + 3) = .int .u64 (C.P i) ∧ mcell C mp st (i * 6 + 4) = .pointer (some ⟨mp i, 0, none⟩) ∧ mcell C mp st (i * 6 + 5) = .int .i64 (st i) := by
  have h0 : i * 6 % 6 = 0 ∧ i * 6 / 6 = i := by omega
  have h1 : (i * 6 + 1) % 6 = 1 ∧ (i * 6 + 1) / 6 = i := by omega
  have h2 : (i * 6 + 2) % 6 = 2 ∧ (i * 6 + 2) / 6 = i := by omega
  have h3 : (i * 6 + 3) % 6 = 3 ∧ (i * 6 + 3) / 6 = i := by omega
  have h4 : (i * 6 + 4) % 6 = 4 ∧ (i * 6 + 4) / 6 = i := by omega
  have h5 : (i * 6 + 5) % 6 = 5 ∧ (i * 6 + 5) / 6 = i := by omega
  unfold mcell
  simp [h0, h1, h2, h3, h4, h5]
abbrev BusL (C : BC) (b g : Nat) (mp : Nat → Nat) (M : Int) (s : BS) : List Res :=
  [BlkR b 64 #[.slice (some ⟨g, 0, none⟩) C.n C.n, .int .u64 s.next, .int .i64 s.who, .int .i64 s.row], ArrR g 69 (C.n * 6) (mcell C mp s.st)] ++ (List.range C.n).map (fun i => MetE (mp i) (C.B i) (C.P i) C.ph (s.ws i) M)
/-- A bus whose meters were asked at M at the latest. -/
def BusR (C : BC) (b g : Nat) (mp : Nat → Nat) (M : Int) (s : BS) : Res := fun w S => Star (BusL C b g mp M s) w S
theorem BusR.ok (C : BC) (b g : Nat) (mp : Nat → Nat) (M : Int) (s : BS) : Ok (BusR C b g mp M s) := Star.ok _
section
variable {w0 w w' : World} {S0 : Nat → Prop} {L : List Res} {C : BC} {b g : Nat} {mp : Nat → Nat} {M now : Int} {s : BS} {k : Nat}
theorem bus_later {M' : Int} (H : St w0 S0 w L) (k : Nat) (hk : L[k]? = some (BusR C b g mp M s)) (h : M ≤ M') : St w0 S0 w (L.set k (BusR C b g mp M' s)) :=
  H.weak k hk (BusR.ok _ _ _ _ _ _) fun S hs => Star.weakF (A := [_, _]) hs fun i hi => ⟨MetE.ok _ _ _ _ _ _, fun T hT => hT.later h⟩
/-- Its own cells. -/
theorem bus_blk (H : St w0 S0 w L) (k : Nat) (hk : L[k]? = some (BusR C b g mp M s)) : Blk w b 64 #[.slice (some ⟨g, 0, none⟩) C.n C.n, .int .u64 s.next, .int .i64 s.who, .int .i64 s.row] := by
  obtain ⟨S, hs⟩ := H.get k hk; exact (St.start hs).blk 0 rfl
theorem bus_cells (H : St w0 S0 w L) (k : Nat) (hk : L[k]? = some (BusR C b g mp M s)) {i : Nat} (hi : i < C.n) : w.cell? ⟨g, i * 6, none⟩ = some (.int .i64 (C.prio i)) ∧ w.cell? ⟨g, i * 6 + 1, none⟩ = some (.int .i64 (C.burst i)) ∧
    w.cell? ⟨g, i * 6 + 2, none⟩ = some (.int .u64 (C.B i)) ∧ w.cell? ⟨g, i * 6 + 3, none⟩ = some (.int .u64 (C.P i)) ∧ w.cell? ⟨g, i * 6 + 4, none⟩ = some (.pointer (some ⟨mp i, 0, none⟩)) ∧ w.cell? ⟨g, i * 6 + 5, none⟩ = some (.int .i64 (s.st i)) := by
  obtain ⟨S, hs⟩ := H.get k hk
  have h := St.start hs
  obtain ⟨m0, m1, m2, m3, m4, m5⟩ := mcell_at C mp s.st i
  exact ⟨by rw [h.arr_cell 1 rfl (by omega), m0], by rw [h.arr_cell 1 rfl (by omega), m1], by rw [h.arr_cell 1 rfl (by omega), m2], by rw [h.arr_cell 1 rfl (by omega), m3], by rw [h.arr_cell 1 rfl (by omega), m4], by rw [h.arr_cell 1 rfl (by omega), m5]⟩
theorem bus_frozen (H : St w0 S0 w L) (k : Nat) (hk : L[k]? = some (BusR C b g mp M s)) (j : Nat) : w.frozen? ⟨g, j, none⟩ = false := by
  obtain ⟨S, hs⟩ := H.get k hk; exact (St.start hs).arr_frozen 1 rfl j
theorem bus_next (H : St w0 S0 w L) (k : Nat) (hk : L[k]? = some (BusR C b g mp M s)) (x : Int) : St w0 S0 (w.setCell ⟨b, 1, none⟩ (.int .u64 x)) (L.set k (BusR C b g mp M { s with next := x })) :=
  H.turn hk (BusR.ok _ _ _ _ _ _) fun T h => ((St.start h).set_ 0 rfl 1 (.int .u64 x)).fin fun S' h' => h'
theorem bus_who (H : St w0 S0 w L) (k : Nat) (hk : L[k]? = some (BusR C b g mp M s)) (x : Int) : St w0 S0 (w.setCell ⟨b, 2, none⟩ (.int .i64 x)) (L.set k (BusR C b g mp M { s with who := x })) :=
  H.turn hk (BusR.ok _ _ _ _ _ _) fun T h => ((St.start h).set_ 0 rfl 2 (.int .i64 x)).fin fun S' h' => h'
theorem bus_row (H : St w0 S0 w L) (k : Nat) (hk : L[k]? = some (BusR C b g mp M s)) (x : Int) : St w0 S0 (w.setCell ⟨b, 3, none⟩ (.int .i64 x)) (L.set k (BusR C b g mp M { s with row := x })) :=
  H.turn hk (BusR.ok _ _ _ _ _ _) fun T h => ((St.start h).set_ 0 rfl 3 (.int .i64 x)).fin fun S' h' => h'
theorem bus_stalls (H : St w0 S0 w L) (k : Nat) (hk : L[k]? = some (BusR C b g mp M s)) {i : Nat} (hi : i < C.n) (x : Int) : St w0 S0 (w.setCell ⟨g, i * 6 + 5, none⟩ (.int .i64 x)) (L.set k (BusR C b g mp M { s with st := upd s.st i x })) :=
  H.turn hk (BusR.ok _ _ _ _ _ _) fun T h => by
    have h1 := (St.start h).arr_set 1 rfl (k := i * 6 + 5) (by omega) (.int .i64 x)
    have h2 := h1.arr_like (V' := mcell C mp (upd s.st i x)) 1 rfl (fun j hj => by
      by_cases e : j = i * 6 + 5
      · subst e; rw [if_pos rfl, (mcell_at C mp _ i).2.2.2.2.2]; simp [upd]
      · rw [if_neg e]
        unfold mcell upd
        by_cases e2 : j / 6 = i
        · have : j % 6 ≠ 5 := by omega
          have : j % 6 < 5 := by omega
          repeat (split; rfl)
          omega
        · rw [if_neg e2])
    exact h2.fin fun S' h' => h'
/-- A meter is asked. -/
theorem bus_left (H : St w0 S0 w L) (k : Nat) (hk : L[k]? = some (BusR C b g mp now s)) {i : Nat} (hi : i < C.n) (hnow : now < 4611686018427387904) :
    Calls Try.prog 37 #[.pointer (some ⟨mp i, 0, none⟩), .int .u64 now] w fun e w' => e = .returned (.tuple #[.int .u64 (C.left s.ws i now), .int .i64 0]) ∧ St w0 S0 w' L := by
  have key := St.call (R := BusR C b g mp now s) (R' := BusR C b g mp now s) (Post := fun e => e = .returned (.tuple #[.int .u64 (C.left s.ws i now), .int .i64 0])) (f := 37) (P := Try.prog) (args := #[.pointer (some ⟨mp i, 0, none⟩), .int .u64 now]) (fun w S h => by
    refine (St.call (mete_left hnow) (MetE.ok _ _ _ _ _ _) (St.start h) (2 + i) (fam_at [_, _] _ hi)).mono ?_
    rintro e w' ⟨he, hs⟩
    refine ⟨he, hs.fin fun S' h' => ?_⟩
    rw [show 2 + i = ([BlkR b 64 #[.slice (some ⟨g, 0, none⟩) C.n C.n, .int .u64 s.next, .int .i64 s.who, .int .i64 s.row], ArrR g 69 (C.n * 6) (mcell C mp s.st)] : List Res).length + i from rfl, fam_set _ _ _ hi] at h'
    rw [fam_like (R' := fun i => MetE (mp i) (C.B i) (C.P i) C.ph (s.ws i) now) (fun j hj => by split; (rename_i e; rw [e]); rfl)] at h'
    exact h') (BusR.ok _ _ _ _ _ _) H k hk
  refine key.mono ?_
  rintro e w' ⟨he, hs⟩
  rw [set_same hk] at hs
  exact ⟨he, hs⟩
theorem bus_take (H : St w0 S0 w L) (k : Nat) (hk : L[k]? = some (BusR C b g mp now s)) {i : Nat} (hi : i < C.n) (hnow : now < 4611686018427387904) (hl : 0 < C.left s.ws i now) :
    Calls Try.prog 38 #[.pointer (some ⟨mp i, 0, none⟩), .int .u64 now, .int .u64 1] w fun e w' => e = .returned (.tuple #[.int .u64 1, .int .i64 0]) ∧ St w0 S0 w' (L.set k (BusR C b g mp now { s with ws := upd s.ws i (s.ws i ++ [(C.K i now, 1)]) })) := by
  refine St.call (R := BusR C b g mp now s) (Post := fun e => e = .returned (.tuple #[.int .u64 1, .int .i64 0])) (f := 38) (P := Try.prog) (args := #[.pointer (some ⟨mp i, 0, none⟩), .int .u64 now, .int .u64 1]) (fun w S h => ?_) (BusR.ok _ _ _ _ _ _) H k hk
  refine (St.call (mete_take hnow hl) (MetE.ok _ _ _ _ _ _) (St.start h) (2 + i) (fam_at [_, _] _ hi)).mono ?_
  rintro e w' ⟨he, hs⟩
  refine ⟨he, hs.fin fun S' h' => ?_⟩
  rw [show 2 + i = ([BlkR b 64 #[.slice (some ⟨g, 0, none⟩) C.n C.n, .int .u64 s.next, .int .i64 s.who, .int .i64 s.row], ArrR g 69 (C.n * 6) (mcell C mp s.st)] : List Res).length + i from rfl, fam_set _ _ _ hi] at h'
  rw [fam_like (R' := fun j => MetE (mp j) (C.B j) (C.P j) C.ph (upd s.ws i (s.ws i ++ [(C.K i now, 1)]) j) now) (fun j hj => by unfold upd; split; (rename_i e; subst e; rfl); rfl)] at h'
  exact h'
/-! ### The functions -/
theorem has_yes (c0 : w.cell? ⟨b, 0, none⟩ = some (.slice (some ⟨g, 0, none⟩) C.n C.n)) (hn : C.n ≤ 16) (i : Nat) (h : i < C.n) :
    Calls Try.prog 35 #[.pointer (some ⟨b, 0, none⟩), .int .i64 i] w fun e w' => e = .returned (.bool true) ∧ w = w' := by
  have d1 : decide (0 ≤ (i : Int)) = true := decide_eq_true (by omega)
  have d2 : decide ((i : Int) < (C.n : Int)) = true := decide_eq_true (by omega)
  go_enter Try.func35, Try.ntmps35
  go_wp2_with fail
  go_ret
  exact ⟨rfl, rfl⟩
theorem has_no (c0 : w.cell? ⟨b, 0, none⟩ = some (.slice (some ⟨g, 0, none⟩) C.n C.n)) (hn : C.n ≤ 16) (x : Int) (h : ¬ (0 ≤ x ∧ x < C.n)) :
    Calls Try.prog 35 #[.pointer (some ⟨b, 0, none⟩), .int .i64 x] w fun e w' => e = .returned (.bool false) ∧ w = w' := by
  by_cases h0 : 0 ≤ x
  · have d1 : decide (0 ≤ x) = true := decide_eq_true h0
    have d2 : decide (x < (C.n : Int)) = false := decide_eq_false (by omega)
    clear h
    go_enter Try.func35, Try.ntmps35
    go_wp2_with fail
    go_ret
    exact ⟨rfl, rfl⟩
  · have d1 : decide (0 ≤ x) = false := decide_eq_false h0
    clear h
    go_enter Try.func35, Try.ntmps35
    go_wp2_with fail
    go_ret
    exact ⟨rfl, rfl⟩
end
end Go.Proofs.Ytabocojmobbpaaa
