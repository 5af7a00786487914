/- Layer 17: the answers that the document fixes. -/
import Derived.Test.YtdnonhhphkmlmaaCpuS
namespace Go.Proofs.Ytdnonhhphkmlmaa
open Go.RowKit
set_option linter.unusedVariables false
set_option maxRecDepth 100000
set_option maxHeartbeats 2000000
theorem blk_ts1 {w : World} {g : Nat} {t : TypeId} {a : Wk} {T : Nat → Wk} (h : Blk w g t #[.int .i64 a.prio, .int .u64 a.cost, .int .u64 a.per, .int .u64 a.dead]) (h0 : T 0 = a) : Ts w (some ⟨g, 0, none⟩) 1 T :=
  fun _ => ⟨g, 0, rfl, h.lt, fun j hj i hi => by
    rw [Nat.zero_add, h.cell]
    match j, hj, i, hi with
    | 0, _, 0, _ | 0, _, 1, _ | 0, _, 2, _ | 0, _, 3, _ => subst h0; rfl⟩
theorem blk_ls1 {w : World} {g : Nat} {t : TypeId} {a : Ld} {S : Nat → Ld} (h : Blk w g t #[.int .i64 a.b, .int .u64 a.per]) (h0 : S 0 = a) : Ls w (some ⟨g, 0, none⟩) 1 S :=
  fun _ => ⟨g, 0, rfl, h.lt, fun j hj i hi => by
    rw [Nat.zero_add, h.cell]
    match j, hj, i, hi with
    | 0, _, 0, _ | 0, _, 1, _ => subst h0; rfl⟩
theorem ls_none (w : World) (S : Nat → Ld) : Ls w none 0 S := fun h => absurd h (by omega)
theorem ts_none (w : World) (T : Nat → Wk) : Ts w none 0 T := fun h => absurd h (by omega)
theorem lok_none (S : Nat → Ld) : LOK 0 S := ⟨by omega, fun j hj => absurd hj (by omega)⟩
theorem tok_none (T : Nat → Wk) : TOK 0 T := ⟨by omega, fun j hj => absurd hj (by omega)⟩
theorem ltyped_none (S : Nat → Ld) : LTyped 0 S := fun j hj => absurd hj (by omega)
theorem LOK.typed {m : Nat} {S : Nat → Ld} (h : LOK m S) : LTyped m S := fun j hj => by
  obtain ⟨o1, o2, o3, o4⟩ := h.2 j hj
  exact ⟨⟨by omega, by omega⟩, by omega, by omega⟩
theorem Gh.anew {n m : Nat} {W : Nat → Wk} {S : Nat → Ld} {V : Nat → Sv} (hT : TOK n W) (hS : LOK m S) (hV : ∀ k, k < m → asS (V k) (S k) ∧ (V k).work = 0 ∧ (V k).xs = [] ∧ (V k).N = 0) :
    Gh n m W S 0 (fun j => tk0 (W j)) V QS.new (fun _ => -1) (fun _ _ => false) (fun _ _ => false) :=
  Gh.new hT.1 hS.1 hT.2 hS.2 (fun j hj => ⟨⟨rfl, rfl, rfl, rfl⟩, rfl, rfl, rfl⟩) hV
section
variable {n m : Nat} {T T' : Nat → CTk} {V V' : Nat → Sv} {now who : Int} {s s' : QS} {ld lc : List Nat}
/-- The first server can run: it does. -/
theorem tick_serve (h : TickP n m T V now s who ld lc T' V' s') (hm : 0 < m) (hc : canS (V 0) now) :
    who = 100 ∧ ld = [] ∧ lc = [] ∧ T' = T ∧ s' = s ∧ (V' 0).work = (V 0).work - 1 ∧ (V' 0).B = (V 0).B ∧ (V' 0).P = (V 0).P ∧ (V' 0).xs = notBack now (V 0).xs ++ [now + (V 0).P] := by
  rcases h with ⟨k, hk, hcan, hno, rfl, rfl, rfl, rfl, rfl, hV⟩ | ⟨hno, _⟩
  · obtain rfl : k = 0 := by
      rcases Nat.eq_zero_or_pos k with h | h
      · exact h
      · exact absurd hc (hno 0 h)
    have e : seenV V now (0 + 1) 0 = seenS (V 0) now := if_pos ⟨by omega, hc.1⟩
    rw [hV, updK_self, e]
    refine ⟨rfl, rfl, rfl, rfl, rfl, rfl, rfl, rfl, ?_⟩
    show useL (V 0).B (V 0).P now (notBack now (V 0).xs) = _
    unfold useL
    rw [notBack_twice, if_pos hc.2]
  · exact absurd hc (hno 0 hm)
/-- No server can run: the first task, if there is one. -/
theorem tick_task (h : TickP n m T V now s who ld lc T' V' s') (hno : ∀ j, j < m → ¬ canS (V j) now) :
    V' = seenV V now m ∧ ((∃ x t, s.all = x :: t ∧ x.1 < n ∧ (T x.1).there = true ∧ who = (x.1 : Int) ∧ T' = updK T x.1 (runT (T x.1)) ∧ s' = (if overT (T x.1) = true then s.go x.1 else s) ∧ ld = doneL (T x.1) x.1 ∧ lc = cutL (T x.1) x.1) ∨
     (s.all = [] ∧ who = -1 ∧ ld = [] ∧ lc = [] ∧ T' = T ∧ s' = s)) := by
  rcases h with ⟨k, hk, hcan, _⟩ | ⟨_, h2, h3⟩
  · exact absurd hcan (hno k hk)
  · exact ⟨h2, h3⟩
/-- One task alone, that is there, runs. -/
theorem tick_one {W : Nat → Wk} {S : Nat → Ld} {t : Nat} {h : Nat → Int} {r b : Nat → Nat → Bool} (G : Gh 1 m W S t T V s h r b) (hP : TickP 1 m T V t s who ld lc T' V' s') (hno : ∀ j, j < m → ¬ canS (V j) t) (hth : (T 0).there = true) :
    V' = seenV V t m ∧ who = 0 ∧ T' = updK T 0 (runT (T 0)) ∧ ld = doneL (T 0) 0 ∧ lc = cutL (T 0) 0 := by
  obtain ⟨h2, h3⟩ := tick_task hP hno
  rcases h3 with ⟨x, l, hall, hx, _, rfl, rfl, _, rfl, rfl⟩ | ⟨hall, _⟩
  · obtain ⟨x1, x2⟩ := x
    obtain rfl : x1 = 0 := by dsimp only at hx; omega
    exact ⟨h2, rfl, rfl, rfl, rfl⟩
  · have hw := (G.ws 0 (by omega)).1
    have hok := (G.wok 0 (by omega)).1
    have hp : s.pr 0 = some (T 0).prio.toNat := (G.link 0 _).2 ⟨by omega, hth, by omega⟩
    have := (G.q.all_mem (x := (0, (T 0).prio.toNat))).2 hp
    rw [hall] at this; cases this
/-- One task alone, that isn't there: nobody runs. -/
theorem tick_none {W : Nat → Wk} {S : Nat → Ld} {t : Nat} {h : Nat → Int} {r b : Nat → Nat → Bool} (G : Gh n m W S t T V s h r b) (hP : TickP n m T V t s who ld lc T' V' s') (hno : ∀ j, j < m → ¬ canS (V j) t) (hth : ∀ j, j < n → (T j).there = false) :
    V' = seenV V t m ∧ who = -1 ∧ ld = [] ∧ lc = [] ∧ T' = T ∧ s' = s := by
  obtain ⟨h2, h3⟩ := tick_task hP hno
  rcases h3 with ⟨x, l, hall, hx, h4, _⟩ | h3
  · rw [hth x.1 hx] at h4; cases h4
  · exact ⟨h2, h3.2⟩
end
end Go.Proofs.Ytdnonhhphkmlmaa
