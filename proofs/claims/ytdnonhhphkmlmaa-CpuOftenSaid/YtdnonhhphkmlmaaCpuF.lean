/- Layer 17: a processor: the first task; a server is served. -/
import Derived.Test.YtdnonhhphkmlmaaCpuE
namespace Go.Proofs.Ytdnonhhphkmlmaa
open Go.RowKit
set_option linter.unusedVariables false
set_option maxRecDepth 100000
set_option maxHeartbeats 2000000
section
variable {w0 w : World} {S0 : Nat → Prop} {X : List Res} {p : Pl} {T T' : Nat → CTk} {V V' : Nat → Sv} {now id dem : Int} {s s' : QS}
theorem cFirstTask_c (H : St w0 S0 w (CpuL p T V now s ++ X)) {m : Nat} (hs : s.ok m) {a pr f : Int} (hF : FirstP s a pr f) :
    Calls Try.prog 46 #[.pointer (some ⟨p.c, 0, none⟩)] w fun e w' => e = .returned (.tuple #[.int .i64 a, .bool (f == 0)]) ∧ St w0 S0 w' (CpuL p T V now s ++ X) := by
  obtain ⟨b0, b1, b2, b3⟩ := cpu_box H
  have FO := Lib.hid (First_o (i := 3) H rfl hs a pr f hF)
  clear H hs hF
  go_enter Try.func46, Try.ntmps46
  go_wp2_with fail
  refine FO.out.mono ?_
  rintro e w2 ⟨rfl, s2⟩
  have S2 := Lib.hid s2
  clear FO s2
  go_wp2_with fail
  go_ret2
  exact ⟨rfl, S2.out⟩
/-- A server's budget goes on. -/
theorem cpu_bput {j : Nat} (hj : j < p.m) {w' : World} {N' : Int} {xs' : List Int} (h : St w0 S0 w' ((CpuL p T V now s ++ X).set (4 + j) (BudR (V j).bp (V j).B (V j).P N' xs'))) :
    St w0 S0 w' (CpuL p T (updK V j { V j with N := N', xs := xs' }) now s ++ X) := by
  obtain ⟨c, q, A, ca, n, E, ce, m⟩ := p
  dsimp only at hj
  have e : (CpuL ⟨c, q, A, ca, n, E, ce, m⟩ T V now s ++ X).set (4 + j) (BudR (V j).bp (V j).B (V j).P N' xs') = CpuL ⟨c, q, A, ca, n, E, ce, m⟩ T (updK V j { V j with N := N', xs := xs' }) now s ++ X := by
    rw [List.set_append_left _ _ (by simp [CpuL]; omega)]
    congr 1
    unfold CpuL
    rw [List.set_append_right _ _ (by simp)]
    have e1 : grid m 2 (svv (updK V j { V j with N := N', xs := xs' })) = grid m 2 (svv V) := grid_like fun i k hi hk => by
      unfold svv
      by_cases e : i = j
      · subst e; rw [updK_self]
      · rw [updK_ne V _ e]
    dsimp only
    rw [e1]
    congr 1
    apply List.ext_getElem?
    intro i
    simp only [List.length_cons, List.length_nil]
    by_cases e : i = j
    · subst e
      rw [show 4 + i - (0 + 1 + 1 + 1 + 1) = i by omega, List.getElem?_set_self (by simp; exact hj)]
      simp [hj, bdR, updK_self]
    · rw [show 4 + j - (0 + 1 + 1 + 1 + 1) = j by omega, List.getElem?_set_ne (Ne.symm e)]
      by_cases hi : i < m
      · simp [hi, bdR, updK_ne V _ e]
      · simp [hi]
  rwa [e] at h
end
end Go.Proofs.Ytdnonhhphkmlmaa
