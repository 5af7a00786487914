/- Layer 17: a processor's calls, with what was done up to now. -/
import Derived.Test.YtdnonhhphkmlmaaCpuR
import Derived.Test.YtdnonhhphkmlmaaSchC
namespace Go.Proofs.Ytdnonhhphkmlmaa
open Go.RowKit
set_option linter.unusedVariables false
set_option maxRecDepth 100000
set_option maxHeartbeats 2000000
theorem St.left {w0 w : World} {S0 : Nat → Prop} {A B : List Res} (h : St w0 S0 w (A ++ B)) : St w0 S0 w A := by
  have k := h.take A.length
  rwa [List.take_left'] at k
  rfl
/-- What Release leaves. -/
structure RelG (p : Pl) (W : Nat → Wk) (S : Nat → Ld) (t : Nat) (T : Nat → CTk) (V : Nat → Sv) (s : QS) (h : Nat → Int) (r b : Nat → Nat → Bool) (id dem f : Int) (T' : Nat → CTk) (s' : QS) (r' : Nat → Nat → Bool) : Prop where
  fe : f = relA p.n T t id dem
  G : Gh p.n p.m W S t T' V s' h r' b
  no : f ≠ 0 → T' = T ∧ s' = s ∧ r' = r
  yes : f = 0 → 0 < dem ∧ 0 ≤ id ∧ id.toNat < p.n ∧ (T id.toNat).there = false ∧ ((T id.toNat).began = true → (T id.toNat).per ≤ (t : Int) - (T id.toNat).rel) ∧ T' = updK T id.toNat (relT (T id.toNat) t dem) ∧ s' = s.come id.toNat (T id.toNat).prio.toNat ∧ r' = fun i => if i = id.toNat then also (r id.toNat) t true else r i
section
variable {w0 w : World} {S0 : Nat → Prop} {X : List Res} {p : Pl} {T T' : Nat → CTk} {V V' : Nat → Sv} {t : Nat} {id dem : Int} {s s' : QS} {W : Nat → Wk} {S : Nat → Ld} {h : Nat → Int} {r b : Nat → Nat → Bool}
theorem gTick (G : Gh p.n p.m W S t T V s h r b) (H : St w0 S0 w (CpuL p T V t s ++ X)) (h1 : t < 4611686018427387903) :
    Calls Try.prog 17 #[.pointer (some ⟨p.c, 0, none⟩)] w fun e w' => ∃ who ld lc T' V' s' D cd C cc M cm nd nc nm, TickP p.n p.m T V t s who ld lc T' V' s' ∧ Gh p.n p.m W S (t + 1) T' V' s' (putH h t who) r (putP T' b (t + 1)) ∧ ld.length = nd ∧ lc.length = nc ∧ (misL T' ((t + 1 : Nat) : Int) p.n).length = nm ∧
      e = .returned (.tuple #[.agg #[.int .i64 who, .slice D nd cd, .slice C nc cc, .slice M nm cm], .int .i64 0]) ∧ St w0 S0 w' (CpuL p T' V' ((t + 1 : Nat) : Int) s' ++ X) := by
  refine (cTick_c H (by have := G.n1; omega) (by have := G.m1; omega) (by omega) (by omega) G.so G.q G.linked).mono ?_
  rintro e w' ⟨who, ld, lc, T', V', s', hP, D, cd, C, cc, M, cm, he, hs⟩
  exact ⟨who, ld, lc, T', V', s', D, cd, C, cc, M, cm, _, _, _, hP, G.tick hP, rfl, rfl, rfl, he, hs.comm.left⟩
theorem relA_cases (n : Nat) (T : Nat → CTk) (now id dem : Int) : relA n T now id dem = 0 ∨ relA n T now id dem = 1 ∨ relA n T now id dem = 2 ∨ relA n T now id dem = 11 ∨ relA n T now id dem = 12 := by
  unfold relA
  split
  · exact Or.inr (Or.inl rfl)
  · split
    · exact Or.inr (Or.inr (Or.inr (Or.inr rfl)))
    · split
      · exact Or.inr (Or.inr (Or.inr (Or.inl rfl)))
      · split
        · exact Or.inr (Or.inr (Or.inl rfl))
        · exact Or.inl rfl
theorem gRelease (G : Gh p.n p.m W S t T V s h r b) (H : St w0 S0 w (CpuL p T V t s ++ X)) (hd : 0 ≤ dem) (h1 : t < 4611686018427387904) :
    Calls Try.prog 14 #[.pointer (some ⟨p.c, 0, none⟩), .int .i64 id, .int .u64 dem] w fun e w' => ∃ f T' s' r', RelG p W S t T V s h r b id dem f T' s' r' ∧ e = .returned (.int .i64 f) ∧ St w0 S0 w' (CpuL p T' V t s' ++ X) := by
  by_cases hf : relA p.n T t id dem = 0
  · have hf0 := hf
    unfold relA at hf
    split at hf
    · exact absurd hf (by decide)
    · rename_i c1
      split at hf
      · exact absurd hf (by decide)
      · rename_i c2
        split at hf
        · exact absurd hf (by decide)
        · rename_i c3
          split at hf
          · exact absurd hf (by decide)
          · rename_i c4
            obtain ⟨j, rfl⟩ : ∃ j : Nat, id = (j : Int) := ⟨id.toNat, by omega⟩
            rw [Int.toNat_natCast] at c2 c3 c4
            have hj : j < p.n := by omega
            have c2 : (T j).there = false := by cases hc : (T j).there with
              | false => rfl
              | true => exact absurd hc c2
            have c3 : (T j).began = true → (T j).per ≤ (t : Int) - (T j).rel := fun hb => by
              rcases Int.lt_or_le ((t : Int) - (T j).rel) (T j).per with hl | hl
              · exact absurd ⟨hb, hl⟩ c3
              · exact hl
            have hno : s.pr j = none := by
              cases hc : s.pr j with
              | none => rfl
              | some a => have := ((G.link j a).1 hc).2.1; rw [c2] at this; cases this
            have hw := (G.ws j hj).1
            have hok := (G.wok j hj).1
            have n1 := G.n1
            have hC : ComeP s (j : Int) (T j).prio 0 (s.come j (T j).prio.toNat) := Or.inr (Or.inr ⟨⟨by omega, by omega⟩, by rw [Int.toNat_natCast]; exact hno, rfl, by rw [Int.toNat_natCast]⟩)
            refine (cRelease_ok H hj (by omega) c2 c3 (by omega) (G.tkok hj) (by omega) (by omega) G.q hC).mono ?_
            rintro e w' ⟨he, hs⟩
            refine ⟨0, _, _, _, ⟨hf0.symm, G.release hj dem c2 c3, fun hne => absurd rfl hne, fun _ => ?_⟩, he, hs⟩
            simp only [Int.toNat_natCast]
            exact ⟨by omega, by omega, hj, c2, c3, by first | rfl | trivial, by first | rfl | trivial, by first | rfl | trivial⟩
  · refine (cRelease_no H rfl hf (fun j hj => G.tkok hj) (by omega) (by omega) hd).mono ?_
    rintro e w' ⟨he, hs⟩
    exact ⟨_, T, s, r, ⟨rfl, G, fun _ => ⟨rfl, rfl, rfl⟩, fun h0 => absurd h0 hf⟩, he, hs⟩
theorem gWake (G : Gh p.n p.m W S t T V s h r b) (H : St w0 S0 w (CpuL p T V t s ++ X)) (hd : 0 ≤ dem) :
    Calls Try.prog 16 #[.pointer (some ⟨p.c, 0, none⟩), .int .i64 id, .int .u64 dem] w fun e w' => Gh p.n p.m W S t T (wakeV p.m V id dem) s h r b ∧ e = .returned (.int .i64 (wakeA p.m id)) ∧ St w0 S0 w' (CpuL p T (wakeV p.m V id dem) t s ++ X) :=
  (cWake_c H (fun j hj => ⟨(G.so j hj).w0, (G.so j hj).w1⟩) hd).mono fun e w' hh => ⟨G.wakeV id dem hd, hh.1, hh.2⟩
end
end Go.Proofs.Ytdnonhhphkmlmaa
