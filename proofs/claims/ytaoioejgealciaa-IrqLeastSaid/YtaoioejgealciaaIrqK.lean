/- Layer 13: a line of which nothing is due and nothing is delivered. -/
import Derived.Test.YtaoioejgealciaaIrqJ
namespace Go.Proofs.Ytaoioejgealciaa
open Go.RowKit
set_option linter.unusedVariables false
set_option maxRecDepth 100000
def Ln.quiet (l : Ln) (t : Int) : Prop := 0 < l.pends ∨ l.held = 0 ∨ bu.tk l.D l.E l.BN l.BT t = 0
structure Tied (t : Int) (m : Bool) (h p st : Int) (l : Ln) : Prop where
  ma : l.masked = m
  hd : l.held = h
  pe : l.pends = p
  cur : l.cur t
  q : l.quiet t
  st : l.St = st
theorem tk_at {D E t x : Int} (h : x ≤ D) : bu.tk D E t x t = x := by unfold bu.tk; split <;> omega
theorem deliver_St (l : Ln) (t : Int) : (l.deliver t).St = l.St ∧ (l.deliver t).Sp = l.Sp ∧ (l.deliver t).win = l.win ∧ (l.deliver t).raises = l.raises := by
  unfold Ln.deliver
  split
  · exact ⟨rfl, rfl, rfl, rfl⟩
  · split <;> exact ⟨rfl, rfl, rfl, rfl⟩
theorem deliver_quiet {l : Ln} {t : Int} (h : l.quiet t) (hD : 0 ≤ l.D) : (l.deliver t).held = l.held ∧ (l.deliver t).pends = l.pends ∧ (l.deliver t).quiet t := by
  unfold Ln.deliver
  split
  · exact ⟨rfl, rfl, h⟩
  · rename_i hn
    split
    · exact ⟨rfl, rfl, Or.inr (Or.inr (tk_at hD))⟩
    · rename_i hk
      rcases h with h | h | h
      · exact absurd (Or.inr (Or.inl h)) hn
      · exact absurd (Or.inr (Or.inr h)) hn
      · exact absurd h hk
theorem deliver_makes {l : Ln} {t : Int} (hm : l.masked = false) (hD : 0 ≤ l.D) : (l.deliver t).quiet t := by
  unfold Ln.deliver
  split
  · rename_i h
    rcases h with h | h | h
    · rw [hm] at h; cases h
    · exact Or.inl h
    · exact Or.inr (Or.inl h)
  · split
    · exact Or.inr (Or.inr (tk_at hD))
    · exact Or.inr (Or.inl rfl)
theorem fired_cur {l : Ln} {t : Int} (h : l.cur t) : l.fired t = { l with N := t } := by
  unfold Ln.fired
  rw [if_neg]
  rintro ⟨h1, h2⟩
  rcases h with h | h
  · rw [h] at h1; simp at h1
  · omega
theorem Tied.goOn {t t0 R h p st : Int} {m : Bool} {l : Ln} (k : Tied t m h p st l) (ok : l.ok t0 R) : Tied t m h p st (l.goOn t) := by
  have hD : 0 ≤ l.D := by have := ok.b.1; omega
  unfold Ln.goOn
  rw [fired_cur k.cur]
  have hq : ({ l with N := t } : Ln).quiet t := k.q
  obtain ⟨d1, d2, d3⟩ := deliver_quiet hq hD
  obtain ⟨_, e2, _, e4, e5⟩ := deliver_same { l with N := t } t
  refine ⟨e5.trans k.ma, d1.trans k.hd, d2.trans k.pe, ?_, d3, (deliver_St _ _).1.trans k.st⟩
  unfold Ln.cur; rw [e2, e4]; exact k.cur
theorem Tied.mask {t h p st : Int} {m : Bool} {l : Ln} (k : Tied t m h p st l) (hD : 0 ≤ l.D) (on : Bool) : Tied t on h p st (l.mask t on) := by
  unfold Ln.mask
  have hq : ({ l with masked := on } : Ln).quiet t := k.q
  obtain ⟨d1, d2, d3⟩ := deliver_quiet hq hD
  obtain ⟨_, e2, _, e4, e5⟩ := deliver_same { l with masked := on } t
  refine ⟨e5, d1.trans k.hd, d2.trans k.pe, ?_, d3, (deliver_St _ _).1.trans k.st⟩
  unfold Ln.cur; rw [e2, e4]; exact k.cur
theorem Tied.fresh {t R h p st : Int} {m : Bool} {l : Ln} (k : Tied t m h p st l) (ok : l.ok t R) : Tied t m h p st (l.fresh t) := by
  have hb := ok.b
  have bd := bu.tk_bd hb.2.2.2.2.1 ok.bn hb.2.2.1 hb.2.2.2.2.2.1 hb.2.2.2.2.2.2
  refine ⟨k.ma, k.hd, k.pe, k.cur, ?_, k.st⟩
  rcases k.q with q | q | q
  · exact Or.inl q
  · exact Or.inr (Or.inl q)
  · refine Or.inr (Or.inr ?_)
    show bu.tk l.D l.E t (bu.tk l.D l.E l.BN l.BT t) t = 0
    rw [tk_at bd.2]; exact q
theorem Tied.raise_masked {t h p st : Int} {l : Ln} (k : Tied t true h p st l) : l.raise t = (l, false) := by
  unfold Ln.raise; rw [if_pos k.ma]
theorem gathered_cur {l : Ln} {t : Int} (h : l.cur t) (hH : 0 ≤ l.H) : (l.gathered t).cur t := by
  unfold Ln.gathered
  split
  · exact Or.inl rfl
  · rename_i hn
    right
    show t < (l.ws ++ [t]).getD 0 0 + l.H
    rw [getD_app]
    have hH0 : l.H ≠ 0 := fun e => hn (Or.inr e)
    split
    · rename_i h0
      rcases h with h | h
      · rw [h] at h0; simp at h0
      · exact h
    · split <;> omega
theorem gathered_masked (l : Ln) (t : Int) : (l.gathered t).masked = l.masked ∧ (l.gathered t).D = l.D ∧ (l.gathered t).H = l.H ∧ (l.gathered t).St = l.St := by
  unfold Ln.gathered; split <;> exact ⟨rfl, rfl, rfl, rfl⟩
theorem Tied.raise {t R h p st : Int} {l : Ln} (k : Tied t false h p st l) (ok : l.ok t R) (ht : 0 ≤ t) (hR : (l.count t).raises ≤ st) : (l.raise t).2 = false ∧ ∃ h' p', Tied t false h' p' st (l.raise t).1 := by
  have hD : 0 ≤ l.D := by have := ok.b.1; omega
  have hH : 0 ≤ l.H := ok.may.1.2.2.1
  unfold Ln.raise
  rw [if_neg (by rw [k.ma]; decide), if_neg (by rw [k.st]; omega)]
  refine ⟨rfl, _, _, ?_, rfl, rfl, ?_, deliver_makes ?_ ?_, ?_⟩
  · rw [(deliver_same _ _).2.2.2.2, (gathered_masked _ _).1]; exact k.ma
  · unfold Ln.cur
    obtain ⟨_, e2, _, e4, _⟩ := deliver_same ((l.count t).gathered t) t
    rw [e2, e4]
    exact gathered_cur (l := l.count t) k.cur hH
  · rw [(gathered_masked _ _).1]; exact k.ma
  · rw [(gathered_masked _ _).2.1]; exact hD
  · rw [(deliver_St _ _).1, (gathered_masked _ _).2.2.2]; exact k.st
theorem Tied.new {t C H D E Sm Sp : Int} : Tied t false 0 0 Sm (Ln.new C H D E Sm Sp) := ⟨rfl, rfl, rfl, Or.inl rfl, Or.inr (Or.inl rfl), rfl⟩
end Go.Proofs.Ytaoioejgealciaa
