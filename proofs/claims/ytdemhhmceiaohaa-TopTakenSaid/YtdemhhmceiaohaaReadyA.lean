/- Layer 15: the answers that the document fixes. -/
import Derived.Test.YtdemhhmceiaohaaReadyG
namespace Go.Proofs.Ytdemhhmceiaohaa
open Go.RowKit
set_option linter.unusedVariables false
set_option maxRecDepth 100000
set_option maxHeartbeats 1000000
def aS1 : QS := QS.new.come 3 5
def aS2 : QS := aS1.come 1 5
def aS3 : QS := aS2.come 2 4
theorem aw1 : ComeP QS.new 3 5 0 aS1 := Or.inr (Or.inr ⟨by decide, rfl, rfl, rfl⟩)
theorem aw2 : ComeP aS1 1 5 0 aS2 := Or.inr (Or.inr ⟨by decide, by decide, rfl, rfl⟩)
theorem aw3 : ComeP aS2 2 4 0 aS3 := Or.inr (Or.inr ⟨by decide, by decide, rfl, rfl⟩)
theorem aw_all : aS3.all = [(2, 4), (3, 5), (1, 5)] := by decide +kernel
theorem aw4 : FirstP aS3 2 4 0 := Or.inr ⟨(2, 4), _, aw_all, rfl, rfl, rfl⟩
theorem aw5 : ComeP aS3 1 9 7 aS3 := Or.inr (Or.inl ⟨by decide, by decide, rfl, rfl⟩)
theorem aw6 : GoP aS3 9 6 aS3 := Or.inl ⟨by decide, rfl, rfl⟩
theorem aw_ok : aS3.ok 3 := aw3.ok (aw2.ok (aw1.ok QS.new_ok (by omega)) (by omega)) (by omega)
section
variable {w0 w w' : World} {S0 S : Nat → Prop} {L : List Res} {q i : Nat} {s s' : QS}
end
end Go.Proofs.Ytdemhhmceiaohaa
