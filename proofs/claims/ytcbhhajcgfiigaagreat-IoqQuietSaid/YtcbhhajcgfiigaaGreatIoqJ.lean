/- Layer 20: a device: how many wait, and are in the ring. -/
import Derived.Test.YtcbhhajcgfiigaaGreatIqH
import Derived.Test.YtcbhhajcgfiigaaGreatOrB
namespace Go.Proofs.YtcbhhajcgfiigaaGreat
open Go.RowKit
set_option linter.unusedVariables false
set_option maxRecDepth 100000
set_option maxHeartbeats 4000000
section
variable {w0 w w' : World} {S0 : Nat → Prop} {X N : List Res} {a : Da} {n sz : Nat} {bp : Nat → Nat} {D D' : Dv} {k : Nat} {ids : List Int}
theorem countsD_o (H : St w0 S0 w (DvL a n sz bp D ++ X)) (hq : D.q.ok) (hg : D.g.ok sz) :
    Calls Tryz.prog 36 #[ptrV a.d] w fun e w' => e = .returned (.tuple #[.int .i64 (D.q.l.length : Int), .int .i64 ((D.g.put : Int) - D.g.reaped)]) ∧ St w0 S0 w' (DvL a n sz bp D ++ X) := by
  have K1 := Lib.hid (od.All_o H 2 rfl hq)
  have d1 := (dv_cells H).seven.2.1
  have HG := Lib.hid hg
  obtain ⟨m, hm⟩ : ∃ m, D.q.l.length = m := ⟨_, rfl⟩
  unfold od.AllP at K1
  rw [hm] at K1 ⊢
  clear H hq hg hm
  go_enter Tryz.func36, Tryz.ntmps36
  go_wp2_with fail
  refine K1.out.mono ?_
  rintro e w1 ⟨B, d, l', rfl, -, -, s1⟩
  have s2 : St w0 S0 w1 (DvL a n sz bp D ++ X) := by
    have h := s1.take (DvL a n sz bp D ++ X).length
    rwa [List.take_left'] at h
    rfl
  have K2 := Lib.hid (inRing_o s2 HG.out)
  clear s1 s2 K1 d1
  go_wp2_with fail
  refine K2.out.mono ?_
  rintro e w2 ⟨rfl, s3⟩
  have S3 := Lib.hid s3
  clear s3 K2
  go_wp2_with fail
  go_ret2
  exact ⟨rfl, S3.out⟩
end
end Go.Proofs.YtcbhhajcgfiigaaGreat
