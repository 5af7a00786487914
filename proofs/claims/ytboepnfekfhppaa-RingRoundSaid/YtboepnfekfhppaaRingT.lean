/- Layer 10: the document's own ring: Finish. -/
import Derived.Test.YtboepnfekfhppaaRingR
import Derived.BigRegion
import Derived.Deep.DeepCutAuto
namespace Go.Proofs.Ytboepnfekfhppaa
open Go.RowKit
set_option linter.unusedVariables false
set_option maxRecDepth 100000
set_option maxHeartbeats 1000000
section
variable {w0 w : World} {S0 S : Nat → Prop} {L : List Res} {p n : Nat} {s s' : RSt}
theorem RFinish_c (h : RRR p n s w S) (hs : s.ok n) (no st f : Int) (hP : FinP s no st f s') :
    Calls Try.prog 15 #[.pointer (some ⟨p, 0, none⟩), .int .i64 no, .int .i64 st] w fun e w' => e = .returned (.int .i64 f) ∧ ∃ S', RRR p n s' w' S' ∧ Did S S' w w' := by
  have HP := Lib.hid hP
  clear hP
  obtain ⟨A, c, hr⟩ := h
  have s0 := St.start hr
  obtain ⟨k0, k1, k2, k3⟩ := rr4 (s0.blk 0 rfl)
  have SB := Lib.hid s0
  have hrt := hs.r
  have htp := hs.t
  have hm := hs.m
  clear hs hr s0
  by_cases q1 : st < 0
  · have d1 : decide (st < 0) = true := decide_eq_true q1
    obtain ⟨rfl, rfl⟩ : f = 1 ∧ s' = s := by
      rcases HP.out with ⟨_, h⟩ | ⟨h, _⟩ | ⟨h, _⟩
      · exact h
      · omega
      · omega
    go_enter Try.func15, Try.ntmps15
    go_wp2_with fail
    go_ret
    exact ⟨rfl, SB.out.fin fun S' h => ⟨A, c, h⟩⟩
  have d1 : decide (st < 0) = false := decide_eq_false q1
  by_cases q2 : 255 < st
  · have d2 : decide (255 < st) = true := decide_eq_true q2
    obtain ⟨rfl, rfl⟩ : f = 1 ∧ s' = s := by
      rcases HP.out with ⟨_, h⟩ | ⟨h, _⟩ | ⟨h, _⟩
      · exact h
      · omega
      · omega
    go_enter Try.func15, Try.ntmps15
    go_wp2_with fail
    go_ret
    exact ⟨rfl, SB.out.fin fun S' h => ⟨A, c, h⟩⟩
  have d2 : decide (255 < st) = false := decide_eq_false q2
  have out : (no < s.reaped ∨ (s.taken : Int) ≤ no) → f = 12 ∧ s' = s := by
    intro hq
    rcases HP.out with ⟨h, _⟩ | ⟨_, _, h⟩ | ⟨_, h, h2, _⟩
    · omega
    · exact h
    · omega
  by_cases q0 : no < 0
  · have d0 : decide (no < 0) = true := decide_eq_true q0
    obtain ⟨rfl, rfl⟩ := out (by omega)
    clear out
    go_enter Try.func15, Try.ntmps15
    go_wp2_with fail
    go_ret
    exact ⟨rfl, SB.out.fin fun S' h => ⟨A, c, h⟩⟩
  have d0 : decide (no < 0) = false := decide_eq_false q0
  by_cases q4 : (s.taken : Int) ≤ no
  · have d4 : decide ((s.taken : Int) ≤ no) = true := decide_eq_true q4
    obtain ⟨rfl, rfl⟩ := out (by omega)
    clear out
    go_enter Try.func15, Try.ntmps15
    go_wp2_with fail
    go_ret
    exact ⟨rfl, SB.out.fin fun S' h => ⟨A, c, h⟩⟩
  have d4 : decide ((s.taken : Int) ≤ no) = false := decide_eq_false q4
  by_cases q3 : no < s.reaped
  · have d3 : decide (no < (s.reaped : Int)) = true := decide_eq_true q3
    obtain ⟨rfl, rfl⟩ := out (by omega)
    clear out
    go_enter Try.func15, Try.ntmps15
    go_wp2_with fail
    go_ret
    exact ⟨rfl, SB.out.fin fun S' h => ⟨A, c, h⟩⟩
  have d3 : decide (no < (s.reaped : Int)) = false := decide_eq_false q3
  clear out
  obtain ⟨k, rfl⟩ : ∃ k : Nat, (k : Int) = no := ⟨no.toNat, by omega⟩
  have d3' : decide (k < s.reaped) = false := decide_eq_false (by omega)
  have d4' : decide (s.taken ≤ k) = false := decide_eq_false (by omega)
  have hk : k < s.put := by omega
  have hfn : ((s.D k).dn = true ∧ f = 12 ∧ s' = s) ∨ ((s.D k).dn = false ∧ f = 0 ∧ s' = ⟨s.put, s.taken, s.reaped, setD s.D k ((s.D k).fin st)⟩) := by
    rcases HP.out with ⟨h, _⟩ | ⟨_, h, hh⟩ | ⟨_, _, _, h, hh⟩
    · omega
    · rcases h with h | h | h
      · omega
      · omega
      · rw [Int.toNat_natCast] at h; exact Or.inl ⟨h, hh⟩
    · rw [Int.toNat_natCast] at h hh; exact Or.inr ⟨h, hh⟩
  have DF := Lib.hid (dsl_fin s.D hk st)
  obtain ⟨b, off, rfl, ⟨-, -, -, -, -, -, e6, e7, e8⟩, fz⟩ := rr9 (SB.out.lis 1 rfl) hk
  clear HP q0 q1 q2 q3 q4
  rcases hfn with ⟨hdn, rfl, rfl⟩ | ⟨hdn, rfl, rfl⟩
  · rw [hdn] at e7
    clear hdn
    go_enter Try.func15, Try.ntmps15
    go_wp2_with fail
    go_ret
    exact ⟨rfl, SB.out.fin fun S' h => ⟨_, c, h⟩⟩
  · rw [hdn] at e7
    clear hdn
    have g6 := fz (off + k * 9 + 6)
    clear fz
    have s1 := SB.out.lis_set 1 rfl (show k * 9 + 6 < s.put * 9 by omega) (.bool false)
    rw [← Nat.add_assoc] at s1
    have s1' : St w S (w.setCell ⟨b, off + k * 9 + 6, none⟩ (.bool false)) [BlkR p 31 #[.int .i64 n, .slice (some ⟨b, off, none⟩) s.put c, .int .i64 s.taken, .int .i64 s.reaped], LisR 36 9 (.slice (some ⟨b, off, none⟩) s.put c) s.put ((dsl s.D s.put).set (k * 9 + 6) (.bool false))] := s1
    obtain ⟨l0, l1, l2, l3⟩ := rr4 (s1'.blk 0 rfl)
    have g7 := (s1'.lis 1 rfl).frozen (off + k * 9 + 7)
    have s2 := s1'.lis_set 1 rfl (show k * 9 + 7 < s.put * 9 by omega) (.bool true)
    rw [← Nat.add_assoc] at s2
    have s2' : St w S ((w.setCell ⟨b, off + k * 9 + 6, none⟩ (.bool false)).setCell ⟨b, off + k * 9 + 7, none⟩ (.bool true)) [BlkR p 31 #[.int .i64 n, .slice (some ⟨b, off, none⟩) s.put c, .int .i64 s.taken, .int .i64 s.reaped], LisR 36 9 (.slice (some ⟨b, off, none⟩) s.put c) s.put (((dsl s.D s.put).set (k * 9 + 6) (.bool false)).set (k * 9 + 7) (.bool true))] := s2
    obtain ⟨m0, m1, m2, m3⟩ := rr4 (s2'.blk 0 rfl)
    have g8 := (s2'.lis 1 rfl).frozen (off + k * 9 + 8)
    have s3 := s2'.lis_set 1 rfl (show k * 9 + 8 < s.put * 9 by omega) (.int .i64 st)
    rw [← Nat.add_assoc, DF.out] at s3
    have S3 := Lib.hid s3
    clear s1 s1' s2 s2' s3 SB DF hrt htp
    go_enter Try.func15, Try.ntmps15
    go_wp2_with fail
    go_ret
    exact ⟨rfl, S3.out.fin fun S' h => ⟨_, c, h⟩⟩
end
end Go.Proofs.Ytboepnfekfhppaa
