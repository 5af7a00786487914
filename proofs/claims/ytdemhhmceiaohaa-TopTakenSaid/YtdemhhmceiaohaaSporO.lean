/- Layer 14: a server's budget beside other things. -/
import Derived.Test.YtdemhhmceiaohaaSporL
import Derived.Test.YtdemhhmceiaohaaSep
namespace Go.Proofs.Ytdemhhmceiaohaa
open Go.RowKit
set_option linter.unusedVariables false
theorem rmay_yes (B P : Int) (w : World) (h : SOK B P) :
    Calls Try.prog 24 #[.agg #[.int .i64 B, .int .u64 P]] w fun e w' => e = .returned (.bool true) ∧ Below w.heap.size w w' := by
  unfold SOK at h
  have d1 : decide (0 < B) = true := decide_eq_true (by omega)
  have d2 : decide (B ≤ 200) = true := decide_eq_true h.2.1
  have d3 : decide (B ≤ P) = true := decide_eq_true h.2.2.1
  have d4 : decide (P ≤ 1099511627776) = true := decide_eq_true h.2.2.2
  have hw : IntKind.u64.wrap B = B := IntWalk.u64_in _ ⟨by omega, by omega⟩
  go_enter Try.func24, Try.ntmps24
  go_wp2
  go_ret
  exact ⟨rfl, (Below.refl _ _).alloc (Nat.le_refl _) _⟩
theorem rmay_no (B P : Int) (w : World) (h : ¬ SOK B P) (h2 : P ≤ 18446744073709551615) :
    Calls Try.prog 24 #[.agg #[.int .i64 B, .int .u64 P]] w fun e w' => e = .returned (.bool false) ∧ Below w.heap.size w w' := by
  unfold SOK at h
  by_cases h1 : 0 < B
  · have d1 : decide (0 < B) = true := decide_eq_true h1
    by_cases h2 : B ≤ 200
    · have d2 : decide (B ≤ 200) = true := decide_eq_true h2
      have hw : IntKind.u64.wrap B = B := IntWalk.u64_in _ ⟨by omega, by omega⟩
      by_cases h3 : P ≤ 1099511627776
      · have d3 : decide (P ≤ 1099511627776) = true := decide_eq_true h3
        have d4 : decide (B ≤ P) = false := decide_eq_false (by omega)
        clear h
        go_enter Try.func24, Try.ntmps24
        go_wp2
        go_ret
        exact ⟨rfl, (Below.refl _ _).alloc (Nat.le_refl _) _⟩
      · have d3 : decide (P ≤ 1099511627776) = false := decide_eq_false h3
        clear h
        go_enter Try.func24, Try.ntmps24
        go_wp2
        go_ret
        exact ⟨rfl, (Below.refl _ _).alloc (Nat.le_refl _) _⟩
    · have d2 : decide (B ≤ 200) = false := decide_eq_false h2
      clear h
      go_enter Try.func24, Try.ntmps24
      go_wp2
      go_ret
      exact ⟨rfl, (Below.refl _ _).alloc (Nat.le_refl _) _⟩
  · have d1 : decide (0 < B) = false := decide_eq_false h1
    clear h
    go_enter Try.func24, Try.ntmps24
    go_wp2
    go_ret
    exact ⟨rfl, (Below.refl _ _).alloc (Nat.le_refl _) _⟩
def useR (B now : Int) (xs : List Int) : Bool := decide (((notBack now xs).length : Int) < B)
def useL (B P now : Int) (xs : List Int) : List Int := if ((notBack now xs).length : Int) < B then notBack now xs ++ [now + P] else notBack now xs
theorem useL_le {B P now : Int} {xs : List Int} (h : (xs.length : Int) ≤ B) : ((useL B P now xs).length : Int) ≤ B := by
  have := notBack_le now xs
  unfold useL; split
  · simp; omega
  · omega
theorem use_any (b base : Nat) (B P N now : Int) (v : Value) (xs : List Int) (w : World) (hb : Sb w b B P N v) (hx : Tm w base v xs) (hB : 0 ≤ B ∧ B ≤ 200) (hn : xs.length ≤ B) (h1 : N ≤ now) (h2 : now < 4611686018427387904) (h0 : 0 ≤ now) (hP : 0 ≤ P ∧ P ≤ 1099511627776) (hbase : base ≤ w.heap.size) :
    Calls Try.prog 72 #[.pointer (some ⟨b, 0, none⟩), .int .u64 now] w fun e w' => e = .returned (.tuple #[.bool (useR B now xs), .int .i64 0]) ∧ Used w w' b base B P now v (useL B P now xs) := by
  have hle := notBack_le now xs
  unfold useR useL
  by_cases hl : ((notBack now xs).length : Int) < B
  · rw [decide_eq_true hl, if_pos hl]
    exact Use_yes b base B P N now v xs w hb hx hB (by omega) h1 h2 h0 hP hl hbase
  · rw [decide_eq_false hl, if_neg hl]
    refine (Use_no b base B P N now v xs w hb hx hB (by omega) h1 h2 (by omega)).mono ?_
    rintro e w' ⟨he, v', hb', hx', hv, ho⟩
    exact ⟨he, v', hb', hx', Or.inl hv, Two.of_only ho _⟩
/-- A budget: its server, the time, the times at which used units come back. -/
def BudR (b : Nat) (B P N : Int) (xs : List Int) : Res := fun w S => ∃ v, Sb w b B P N v ∧ Tm w 0 v xs ∧ ∀ c, S c ↔ c = b ∨ v.ownBlock = some c
theorem BudR.ok (b : Nat) (B P N : Int) (xs : List Int) : Ok (BudR b B P N xs) := by
  refine ⟨fun {w S} ⟨v, h1, h2, hs⟩ c hc => ?_, fun {w w' S} ⟨v, h1, h2, hs⟩ hk => ⟨v, (hk b ((hs b).2 (Or.inl rfl))).trans h1, Lst.keep h2 fun g hg => hk g ((hs g).2 (Or.inr hg)), hs⟩⟩
  rcases (hs c).1 hc with e | e
  · rw [e]; exact Blk.lt h1
  · exact Lst.lt h2 e
section
variable {w0 w w' : World} {S0 : Nat → Prop} {L : List Res} {b : Nat} {B P N now : Int} {xs ys : List Int}
theorem bud_bud {v : Value} (H : St w0 S0 w L) (i : Nat) (hi : L[i]? = some (BudR b B P N xs)) (hb : Sb w b B P N v) (h : Bud w w' b 0 B P now v ys) : St w0 S0 w' (L.set i (BudR b B P now ys)) :=
  H.turn hi (BudR.ok _ _ _ _ _) fun T ⟨v1, h1, h2, hs⟩ => by
    obtain ⟨v', k1, k2, k3, k4⟩ := h
    have hv : v1 = v := by have a := h1.c3; have c := hb.c3; rw [a] at c; injection c
    subst hv
    exact ⟨T, ⟨v', k1, k2, fun c => by rw [hs, k3]⟩, Did.of_only k4 ((hs b).2 (Or.inl rfl)) fun c hc => Or.inl hc⟩
theorem bud_used {v : Value} (H : St w0 S0 w L) (i : Nat) (hi : L[i]? = some (BudR b B P N xs)) (hb : Sb w b B P N v) (h : Used w w' b 0 B P now v ys) : St w0 S0 w' (L.set i (BudR b B P now ys)) :=
  H.turn hi (BudR.ok _ _ _ _ _) fun T ⟨v1, h1, h2, hs⟩ => by
    obtain ⟨v', k1, k2, k3, k4⟩ := h
    have hv : v1 = v := by have a := h1.c3; have c := hb.c3; rw [a] at c; injection c
    subst hv
    refine ⟨fun c => c = b ∨ v'.ownBlock = some c, ⟨v', k1, k2, fun c => Iff.rfl⟩, k4.os, k4.tape, k4.output, k4.size, fun k hk hn => k4.block k hk (fun e => hn ((hs k).2 (Or.inl e))) (fun e => hn ((hs k).2 (Or.inr e.symm))), fun c hc => ?_⟩
    rcases hc with e | e
    · exact Or.inl ((hs c).2 (Or.inl e))
    · rcases k3 with k3 | ⟨g, k3, k5⟩
      · exact Or.inl ((hs c).2 (Or.inr (k3 ▸ e)))
      · rw [k3] at e; injection e with e; exact Or.inr (e ▸ k5)
theorem bud_new (H : St w0 S0 w L) (h : SOK B P) :
    Calls Try.prog 27 #[.agg #[.int .i64 B, .int .u64 P]] w fun r w' => ∃ b, r = .returned (.tuple #[.pointer (some ⟨b, 0, none⟩), .int .i64 0]) ∧ St w0 S0 w' (L ++ [BudR b B P 0 []]) :=
  (new_ok B P w h).mono fun r w' ⟨b, hb, he, hs, hw⟩ => ⟨b, he, H.more hw (Star.one (BudR.ok _ _ _ _ _) ⟨_, hs, Lst.nil _ _ _, fun c => Iff.rfl⟩) fun c hc => by
    rcases hc with e | e
    · omega
    · simp [Value.ownBlock] at e⟩
theorem bud_use (H : St w0 S0 w L) (i : Nat) (hi : L[i]? = some (BudR b B P N xs)) (hB : 0 ≤ B ∧ B ≤ 200) (hn : xs.length ≤ B) (h1 : N ≤ now) (h2 : now < 4611686018427387904) (h0 : 0 ≤ now) (hP : 0 ≤ P ∧ P ≤ 1099511627776) :
    Calls Try.prog 72 #[.pointer (some ⟨b, 0, none⟩), .int .u64 now] w fun e w' => e = .returned (.tuple #[.bool (useR B now xs), .int .i64 0]) ∧ St w0 S0 w' (L.set i (BudR b B P now (useL B P now xs))) := by
  obtain ⟨S, v, hb, hx, _⟩ := H.get i hi
  exact (use_any b 0 B P N now v xs w hb hx hB hn h1 h2 h0 hP (Nat.zero_le _)).mono fun e w' ⟨he, hu⟩ => ⟨he, bud_used H i hi hb hu⟩
theorem bud_left (H : St w0 S0 w L) (i : Nat) (hi : L[i]? = some (BudR b B P N xs)) (hB : 0 ≤ B ∧ B ≤ 200) (hn : xs.length ≤ B) (h1 : N ≤ now) (h2 : now < 4611686018427387904) :
    Calls Try.prog 74 #[.pointer (some ⟨b, 0, none⟩), .int .u64 now] w fun e w' => e = .returned (.tuple #[.int .i64 (B - (notBack now xs).length), .int .i64 0]) ∧ St w0 S0 w' (L.set i (BudR b B P now (notBack now xs))) := by
  obtain ⟨S, v, hb, hx, _⟩ := H.get i hi
  exact (Left_ok b 0 B P N now v xs w hb hx hB (by omega) h1 h2).mono fun e w' ⟨he, hu⟩ => ⟨he, bud_bud H i hi hb hu⟩
end
end Go.Proofs.Ytdemhhmceiaohaa
