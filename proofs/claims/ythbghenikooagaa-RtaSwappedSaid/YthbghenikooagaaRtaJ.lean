/- Layer 16: tasks and loads that came in. -/
import Derived.Test.YthbghenikooagaaRtaH
namespace Go.Proofs.Ythbghenikooagaa
open Go.RowKit
set_option linter.unusedVariables false
theorem ts_of {w : World} {A : Option Addr} {n : Nat} {V : Nat → Nat → Value} {T : Nat → Wk} (rd : RdM w A n 4 V) (h : ∀ j, j < n → V j 0 = .int .i64 (T j).prio ∧ V j 1 = .int .u64 (T j).cost ∧ V j 2 = .int .u64 (T j).per ∧ V j 3 = .int .u64 (T j).dead) : Ts w A n T := fun hn => by
  obtain ⟨b, off, e, hb, hc⟩ := rd hn
  refine ⟨b, off, e, hb, fun j hj i hi => ?_⟩
  obtain ⟨h0, h1, h2, h3⟩ := h j hj
  rw [hc j hj i hi]
  match i, hi with
  | 0, _ => rw [h0]; rfl
  | 1, _ => rw [h1]; rfl
  | 2, _ => rw [h2]; rfl
  | 3, _ => rw [h3]; rfl
theorem ls_of {w : World} {A : Option Addr} {n : Nat} {V : Nat → Nat → Value} {S : Nat → Ld} (rd : RdM w A n 2 V) (h : ∀ j, j < n → V j 0 = .int .i64 (S j).b ∧ V j 1 = .int .u64 (S j).per) : Ls w A n S := fun hn => by
  obtain ⟨b, off, e, hb, hc⟩ := rd hn
  refine ⟨b, off, e, hb, fun j hj i hi => ?_⟩
  obtain ⟨h0, h1⟩ := h j hj
  rw [hc j hj i hi]
  match i, hi with
  | 0, _ => rw [h0]; rfl
  | 1, _ => rw [h1]; rfl
end Go.Proofs.Ythbghenikooagaa
