/- Layer 13: a line in its window: what was raised and what was acknowledged. -/
import Derived.Test.YtaoioejgealciaaIrqK
namespace Go.Proofs.Ytaoioejgealciaa
open Go.RowKit
set_option linter.unusedVariables false
set_option maxRecDepth 100000
def Ln.tot (l : Ln) : Int := l.held + l.pends + l.ws.length
theorem fired_tot (l : Ln) (t : Int) : (l.fired t).tot = l.tot := by
  unfold Ln.fired Ln.tot
  split
  · show l.held + (l.ws.length : Int) + l.pends + ((0 : Nat) : Int) = _; omega
  · rfl
theorem fired_same2 (l : Ln) (t : Int) : (l.fired t).St = l.St ∧ (l.fired t).Sp = l.Sp ∧ (l.fired t).win = l.win ∧ (l.fired t).raises = l.raises ∧ (l.fired t).H = l.H := by
  unfold Ln.fired; split <;> exact ⟨rfl, rfl, rfl, rfl, rfl⟩
theorem deliver_tot {l : Ln} (t : Int) (h : 0 ≤ l.pends) : (l.deliver t).tot = l.tot := by
  unfold Ln.deliver
  split
  · rfl
  · rename_i hn
    have hp : ¬ 0 < l.pends := fun h => hn (Or.inr (Or.inl h))
    split
    · rfl
    · unfold Ln.tot; show 0 + l.held + (l.ws.length : Int) = _; omega
/-- A line that is not masked, in window k, with i raises there at most; a: as many were acknowledged, R: raised. -/
structure Wd (Sm Sp : Int) (k i : Nat) (a R : Int) (l : Ln) : Prop where
  ma : l.masked = false
  st : l.St = Sm
  sp : l.Sp = Sp
  wl : l.win ≤ k
  we : l.win = k → l.raises ≤ i
  sum : a + l.tot ≤ R
theorem Wd.new {C H D E Sm Sp : Int} : Wd Sm Sp 0 0 0 0 (Ln.new C H D E Sm Sp) := ⟨rfl, rfl, rfl, Int.le_refl _, fun _ => Int.le_refl _, Int.le_refl _⟩
theorem Wd.deliver {Sm Sp : Int} {k i : Nat} {a R : Int} {l : Ln} (h : Wd Sm Sp k i a R l) (t : Int) (hp : 0 ≤ l.pends) : Wd Sm Sp k i a R (l.deliver t) := by
  obtain ⟨d1, d2, d3, d4⟩ := deliver_St l t
  exact ⟨(deliver_same l t).2.2.2.2.trans h.ma, d1.trans h.st, d2.trans h.sp, by rw [d3]; exact h.wl, by rw [d3, d4]; exact h.we, by rw [deliver_tot t hp]; exact h.sum⟩
theorem Wd.goOn {Sm Sp : Int} {k i : Nat} {a R : Int} {l : Ln} (h : Wd Sm Sp k i a R l) (t : Int) (hp : 0 ≤ l.pends) : Wd Sm Sp k i a R (l.goOn t) := by
  obtain ⟨d1, d2, d3, d4, _⟩ := fired_same2 l t
  obtain ⟨e1, e2, _⟩ := fired_same l t
  have h1 : Wd Sm Sp k i a R (l.fired t) := ⟨e2.trans h.ma, d1.trans h.st, d2.trans h.sp, by rw [d3]; exact h.wl, by rw [d3, d4]; exact h.we, by rw [fired_tot]; exact h.sum⟩
  exact h1.deliver t (by rw [e1]; exact hp)
theorem Wd.raise {Sm Sp : Int} {k i : Nat} {a R t : Int} {l : Ln} (h : Wd Sm Sp k i a R l) (hp : 0 ≤ l.pends) (hw : t / Sp = k) (hi : (i : Int) < Sm) (hr : 0 ≤ l.raises) : (l.raise t).2 = false ∧ Wd Sm Sp k (i + 1) a (R + 1) (l.raise t).1 := by
  have hc : (l.count t).raises ≤ i + 1 := by
    show (if t / l.Sp = l.win then l.raises else 0) + 1 ≤ _
    rw [h.sp, hw]
    split
    · rename_i e; have := h.we e.symm; omega
    · omega
  unfold Ln.raise
  rw [if_neg (by rw [h.ma]; decide), if_neg (by rw [h.st]; omega)]
  refine ⟨rfl, ?_⟩
  have hg : ((l.count t).gathered t).pends = l.pends ∧ ((l.count t).gathered t).Sp = l.Sp ∧ ((l.count t).gathered t).win = t / l.Sp ∧ ((l.count t).gathered t).raises = (l.count t).raises ∧ ((l.count t).gathered t).tot = l.tot + 1 := by
    unfold Ln.gathered
    split
    · refine ⟨rfl, rfl, rfl, rfl, ?_⟩
      unfold Ln.tot; show l.held + ((l.ws.length : Int) + 1) + l.pends + ((0 : Nat) : Int) = _; omega
    · refine ⟨rfl, rfl, rfl, rfl, ?_⟩
      unfold Ln.tot; show l.held + l.pends + ((l.ws ++ [t]).length : Int) = _; simp; omega
  obtain ⟨g1, g2, g3, g4, g5⟩ := hg
  have hx : Wd Sm Sp k (i + 1) a (R + 1) ((l.count t).gathered t) :=
    ⟨(gathered_masked _ _).1.trans h.ma, (gathered_masked _ _).2.2.2.trans h.st, g2.trans h.sp, by rw [g3, h.sp, hw]; exact Int.le_refl _, fun _ => by rw [g4]; omega, by rw [g5]; have := h.sum; omega⟩
  exact hx.deliver t (by rw [g1]; exact hp)
theorem Wd.ack {Sm Sp : Int} {k i : Nat} {a R t : Int} {l : Ln} (h : Wd Sm Sp k i a R l) (hp : 0 ≤ l.pends) : Wd Sm Sp k i (a + l.pends) R (l.ack t) := by
  have h1 : Wd Sm Sp k i (a + l.pends) R { l with pends := 0 } := ⟨h.ma, h.st, h.sp, h.wl, h.we, by have := h.sum; unfold Ln.tot at this ⊢; show a + l.pends + (l.held + 0 + (l.ws.length : Int)) ≤ R; omega⟩
  exact h1.deliver t (Int.le_refl _)
theorem Wd.fresh {Sm Sp : Int} {k i : Nat} {a R t : Int} {l : Ln} (h : Wd Sm Sp k i a R l) : Wd Sm Sp k i a R (l.fresh t) := ⟨h.ma, h.st, h.sp, h.wl, h.we, h.sum⟩
theorem Wd.next {Sm Sp : Int} {k i : Nat} {a R : Int} {l : Ln} (h : Wd Sm Sp k i a R l) : Wd Sm Sp (k + 1) 0 a R l := ⟨h.ma, h.st, h.sp, by have := h.wl; omega, fun e => by have := h.wl; omega, h.sum⟩
end Go.Proofs.Ytaoioejgealciaa
