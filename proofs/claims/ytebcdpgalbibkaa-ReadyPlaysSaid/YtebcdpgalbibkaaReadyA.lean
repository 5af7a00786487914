/- Layer 15: the answers that the document fixes. -/
import Derived.Test.YtebcdpgalbibkaaReadyG
namespace Go.Proofs.Ytebcdpgalbibkaa
open Go.RowKit
set_option linter.unusedVariables false
set_option maxRecDepth 100000
set_option maxHeartbeats 1000000
def aS1 : QS := QS.new.come 3 5
def aS2 : QS := aS1.come 1 5
def aS3 : QS := aS2.come 2 4
theorem aw1 : ComeP QS.new 3 5 0 aS1 := Or.inr (Or.inr ⟨by decide, rfl, rfl, rfl⟩)
theorem aw2 : ComeP aS1 1 5 0 aS2 := Or.inr (Or.inr ⟨by decide, by decide, rfl, rfl⟩)
theorem aw3 : ComeP aS2 2 4 0 aS3 := Or.inr (Or.inr ⟨by decide, by decide, rfl, rfl⟩)
theorem aw_all : aS3.all = [(2, 4), (3, 5), (1, 5)] := by decide +kernel
theorem aw4 : FirstP aS3 2 4 0 := Or.inr ⟨(2, 4), _, aw_all, rfl, rfl, rfl⟩
theorem aw5 : ComeP aS3 1 9 7 aS3 := Or.inr (Or.inl ⟨by decide, by decide, rfl, rfl⟩)
theorem aw6 : GoP aS3 9 6 aS3 := Or.inl ⟨by decide, rfl, rfl⟩
theorem aw_ok : aS3.ok 3 := aw3.ok (aw2.ok (aw1.ok QS.new_ok (by omega)) (by omega)) (by omega)
section
variable {w0 w w' : World} {S0 S : Nat → Prop} {L : List Res} {q i : Nat} {s s' : QS}
theorem awake_any (w : World) : Calls Try.prog 8 #[] w fun e w' => e = .returned (.bool true) ∧ Below w.heap.size w w' := by
  have H := Lib.hid (St.begin w)
  go_enter Try.func8, Try.ntmps8
  go_wp2_with fail
  refine (New_o H.out).mono ?_
  rintro e w1 ⟨q, rfl, s1'⟩
  have s1 : St w None w1 [QueR q QS.new] := s1'
  have S1 := Lib.hid s1
  clear s1 s1' H
  go_wp2_with fail
  refine (Come_o (i := 0) S1.out rfl QS.new_ok 3 5 0 aw1).mono ?_
  rintro e w2 ⟨rfl, s2⟩
  have S2 := Lib.hid s2
  clear S1 s2
  go_wp2_with fail
  refine (Come_o (i := 0) S2.out rfl (aw1.ok QS.new_ok (by omega)) 1 5 0 aw2).mono ?_
  rintro e w3 ⟨rfl, s3⟩
  have S3 := Lib.hid s3
  clear S2 s3
  go_wp2_with fail
  refine (Come_o (i := 0) S3.out rfl (aw2.ok (aw1.ok QS.new_ok (by omega)) (by omega)) 2 4 0 aw3).mono ?_
  rintro e w4 ⟨rfl, s4⟩
  have S4 := Lib.hid s4
  clear S3 s4
  go_wp2_with fail
  refine (First_o (i := 0) S4.out rfl aw_ok 2 4 0 aw4).mono ?_
  rintro e w5 ⟨rfl, s5⟩
  have S5 := Lib.hid s5
  clear S4 s5
  go_wp2_with fail
  refine (All_o (i := 0) S5.out rfl aw_ok).mono ?_
  rintro e w6 ⟨B, c, rfl, s6'⟩
  have s6 : St w None w6 [QueR q aS3, LisR 3 1 (.slice B aS3.all.length c) aS3.all.length (ivs aS3.ids)] := s6'
  unfold QS.ids at s6
  rw [aw_all] at s6 ⊢
  have S6 := Lib.hid s6
  clear s6' S5 s6
  go_wp2_with fail
  refine (Come_o (i := 0) S6.out rfl aw_ok 1 9 7 aw5).mono ?_
  rintro e w7 ⟨rfl, s7⟩
  obtain ⟨g, off, rfl, hc⟩ := (s7.lis 1 rfl).reads.2.resolve_left (by simp)
  have c1 : w7.cell? ⟨g, off + 1, none⟩ = some (.int .i64 3) := hc 1 _ rfl
  have c2 : w7.cell? ⟨g, off + 2, none⟩ = some (.int .i64 1) := hc 2 _ rfl
  have S7 := Lib.hid s7
  have GO := Lib.hid (Go_o (i := 0) s7 rfl aw_ok 9 6 aw6)
  clear S6 s7 hc
  go_wp2_with fail
  refine GO.out.mono ?_
  rintro e w8 ⟨rfl, s8⟩
  go_wp2_with fail
  go_ret
  exact ⟨rfl, s8.below⟩
theorem awake_o (H : St w0 S0 w L) : Calls Try.prog 8 #[] w fun e w' => e = .returned (.bool true) ∧ St w0 S0 w' L := looks (awake_any w) H
end
end Go.Proofs.Ytebcdpgalbibkaa
