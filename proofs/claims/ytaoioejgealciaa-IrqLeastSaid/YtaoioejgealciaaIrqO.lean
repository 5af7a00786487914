/- Layer 13: a line and what it took from its bucket: no more often than the bucket lets. -/
import Derived.Test.YtaoioejgealciaaIrqL
namespace Go.Proofs.Ytaoioejgealciaa
open Go.RowKit
set_option linter.unusedVariables false
set_option maxRecDepth 100000
theorem St.box2 {w0 w : World} {S0 : Nat → Prop} {L : List Res} (h : St w0 S0 w L) (t1 t2 : TypeId) (c1 c2 : Array Value) : St w0 S0 ((w.alloc (.cells c1 t1)).alloc (.cells c2 t2)) (L ++ [BlkR w.heap.size t1 c1] ++ [BlkR (w.heap.size + 1) t2 c2]) := by
  have := (h.box t1 c1).box t2 c2
  rwa [show (w.alloc (.cells c1 t1)).heap.size = w.heap.size + 1 by simp] at this
theorem Blk.two_cells {w : World} {g : Nat} {t : TypeId} {x y : Value} (h : Blk w g t #[x, y]) : w.cell? ⟨g, 0, none⟩ = some x ∧ w.cell? ⟨g, 1, none⟩ = some y :=
  ⟨by have := Blk.cell h 0; simpa using this, by have := Blk.cell h 1; simpa using this⟩
/-- What a line may still deliver at time t, and what it has delivered. -/
def Ln.pot (l : Ln) (t : Int) : Int := bu.tk l.D l.E l.BN l.BT t + (if 0 < l.pends then 1 else 0)
theorem deliver_cd (l : Ln) (t : Int) : (l.deliver t).C = l.C ∧ (l.deliver t).D = l.D ∧ (l.deliver t).E = l.E ∧ (l.deliver t).ws = l.ws ∧ (l.deliver t).masked = l.masked := by
  unfold Ln.deliver
  split
  · exact ⟨rfl, rfl, rfl, rfl, rfl⟩
  · split <;> exact ⟨rfl, rfl, rfl, rfl, rfl⟩
theorem fired_cd (l : Ln) (t : Int) : (l.fired t).C = l.C ∧ (l.fired t).D = l.D ∧ (l.fired t).E = l.E ∧ (l.fired t).masked = l.masked ∧ (l.fired t).pot t = l.pot t := by
  unfold Ln.fired; split <;> exact ⟨rfl, rfl, rfl, rfl, rfl⟩
theorem gathered_cd (l : Ln) (t : Int) : (l.gathered t).C = l.C ∧ (l.gathered t).D = l.D ∧ (l.gathered t).E = l.E ∧ (l.gathered t).pends = l.pends ∧ (l.gathered t).pot t = l.pot t := by
  unfold Ln.gathered; split <;> exact ⟨rfl, rfl, rfl, rfl, rfl⟩
theorem gathered_tot (l : Ln) (t : Int) : (l.gathered t).tot = l.tot + 1 := by
  unfold Ln.gathered
  split
  · unfold Ln.tot; show l.held + ((l.ws.length : Int) + 1) + l.pends + ((0 : Nat) : Int) = _; omega
  · unfold Ln.tot; show l.held + l.pends + ((l.ws ++ [t]).length : Int) = _; simp; omega
theorem ok_tk {l : Ln} {t R : Int} (h : l.ok t R) : 0 ≤ bu.tk l.D l.E l.BN l.BT t ∧ bu.tk l.D l.E l.BN l.BT t ≤ l.D := by
  have hb := h.b
  exact bu.tk_bd hb.2.2.2.2.1 h.bn hb.2.2.1 hb.2.2.2.2.2.1 hb.2.2.2.2.2.2
theorem deliver_pot {l : Ln} {t R : Int} (h : l.ok t R) : (l.deliver t).pot t ≤ l.pot t := by
  have bd := ok_tk h
  unfold Ln.deliver
  split
  · exact Int.le_refl _
  · rename_i hn
    have hp : ¬ 0 < l.pends := fun x => hn (Or.inr (Or.inl x))
    split
    · rename_i hz
      unfold Ln.pot
      show bu.tk l.D l.E t 0 t + (if 0 < l.pends then 1 else 0) ≤ _
      rw [tk_at (by omega), hz]; exact Int.le_refl _
    · unfold Ln.pot
      show bu.tk l.D l.E t (bu.tk l.D l.E l.BN l.BT t - 1) t + (if 0 < l.held then 1 else 0) ≤ _
      rw [tk_at (by omega), if_neg hp]
      split <;> omega
theorem goOn_pot {l : Ln} {t t' R : Int} (h : l.ok t R) (h0 : 0 ≤ t') (ht : t ≤ t') (hl : t' < 4611686018427387904) : (l.goOn t').pot t' ≤ l.pot t' := by
  have h1 := deliver_pot (Ln.fired_ok h h0 ht hl)
  rw [(fired_cd l t').2.2.2.2] at h1
  exact h1
theorem ack_pot {l : Ln} {t R : Int} (h : l.ok t R) (hp : 0 < l.pends) : (l.ack t).pot t + 1 ≤ l.pot t := by
  have hs := h.sum
  have hx : ({ l with pends := 0 } : Ln).ok t R := ⟨h.may, h.g, h.gn, h.b, h.bn, h.h0, Int.le_refl _, h.w0, h.r0, by show l.held + 0 + (l.ws.length : Int) ≤ R; omega, h.rs, h.big⟩
  have h1 := deliver_pot hx
  have h2 : ({ l with pends := 0 } : Ln).pot t = bu.tk l.D l.E l.BN l.BT t + 0 := rfl
  have h3 : l.pot t = bu.tk l.D l.E l.BN l.BT t + 1 := by unfold Ln.pot; rw [if_pos hp]
  show (({ l with pends := 0 } : Ln).deliver t).pot t + 1 ≤ _
  omega
theorem fresh_pot {l : Ln} {t R : Int} (h : l.ok t R) : (l.fresh t).pot t = l.pot t := by
  have bd := ok_tk h
  unfold Ln.pot Ln.fresh
  show bu.tk l.D l.E t (bu.tk l.D l.E l.BN l.BT t) t + _ = _
  rw [tk_at bd.2]
theorem pot_next {l : Ln} {t t' R : Int} (h : l.ok t R) (ht : t ≤ t') : l.pot t' ≤ l.pot t + (t' / l.E - t / l.E) := by
  have hE := h.b.2.2.1
  have m1 : t / l.E ≤ t' / l.E := Int.ediv_le_ediv (by omega) ht
  have : bu.tk l.D l.E l.BN l.BT t' ≤ bu.tk l.D l.E l.BN l.BT t + (t' / l.E - t / l.E) := by
    unfold bu.tk; split <;> split <;> omega
  unfold Ln.pot
  omega
/-- A line that is not masked: of R raised, a were acknowledged. -/
structure Nx (C D E Sm a R : Int) (l : Ln) : Prop where
  ma : l.masked = false
  c : l.C = C
  d : l.D = D
  e : l.E = E
  st : l.St = Sm
  sum : a + l.tot = R
section
variable {C D E Sm a R t t0 : Int} {l : Ln}
theorem Nx.new {H Sp : Int} : Nx C D E Sm 0 0 (Ln.new C H D E Sm Sp) := ⟨rfl, rfl, rfl, rfl, rfl, rfl⟩
theorem Nx.deliver (h : Nx C D E Sm a R l) (t : Int) (hp : 0 ≤ l.pends) : Nx C D E Sm a R (l.deliver t) := by
  obtain ⟨e1, e2, e3, e4, e5⟩ := deliver_cd l t
  exact ⟨e5.trans h.ma, e1.trans h.c, e2.trans h.d, e3.trans h.e, (deliver_St l t).1.trans h.st, by rw [deliver_tot t hp]; exact h.sum⟩
theorem Nx.goOn (h : Nx C D E Sm a R l) (t : Int) (hp : 0 ≤ l.pends) : Nx C D E Sm a R (l.goOn t) := by
  obtain ⟨e1, e2, e3, e4, e5⟩ := fired_cd l t
  have h1 : Nx C D E Sm a R (l.fired t) := ⟨e4.trans h.ma, e1.trans h.c, e2.trans h.d, e3.trans h.e, (fired_same2 l t).1.trans h.st, by rw [fired_tot]; exact h.sum⟩
  exact h1.deliver t (by rw [(fired_same l t).1]; exact hp)
theorem Nx.raise (h : Nx C D E Sm a R l) (ok : l.ok t R) (ht : 0 ≤ t) (hl : t < 4611686018427387904) (hR : R + 1 ≤ Sm) (hS : Sm ≤ 10000) : (l.raise t).2 = false ∧ Nx C D E Sm a (R + 1) (l.raise t).1 ∧ (l.raise t).1.pot t ≤ l.pot t := by
  have hc := Ln.count_ok ok ht (by omega)
  have hs := ok.sum
  have hg := Ln.gathered_ok hc (show l.held + l.pends + l.ws.length ≤ R from hs) ht hl
  unfold Ln.raise
  rw [if_neg (by rw [h.ma]; decide), if_neg (by have := hc.rs; rw [h.st]; omega)]
  obtain ⟨g1, g2, g3, g4, g5⟩ := gathered_cd (l.count t) t
  obtain ⟨q1, q2, q3, q4⟩ := gathered_masked (l.count t) t
  have hx : Nx C D E Sm a (R + 1) ((l.count t).gathered t) := ⟨q1.trans h.ma, g1.trans h.c, g2.trans h.d, g3.trans h.e, q4.trans h.st, by rw [gathered_tot]; have := h.sum; show a + (l.tot + 1) = _; omega⟩
  refine ⟨rfl, hx.deliver t (by rw [g4]; exact ok.p0), ?_⟩
  have hd := deliver_pot hg
  rw [g5] at hd
  exact hd
theorem Nx.ack (h : Nx C D E Sm a R l) (hp : 0 ≤ l.pends) : Nx C D E Sm (a + l.pends) R (l.ack t) := by
  have h1 : Nx C D E Sm (a + l.pends) R { l with pends := 0 } := ⟨h.ma, h.c, h.d, h.e, h.st, by have := h.sum; unfold Ln.tot at this ⊢; show a + l.pends + (l.held + 0 + (l.ws.length : Int)) = R; omega⟩
  exact h1.deliver t (Int.le_refl _)
theorem Nx.fresh (h : Nx C D E Sm a R l) : Nx C D E Sm a R (l.fresh t) := ⟨h.ma, h.c, h.d, h.e, h.st, h.sum⟩
/-- What was acknowledged between f and to, at time k. -/
structure Of (D E : Int) (f to k O : Int) (l : Ln) : Prop where
  o0 : 0 ≤ O
  lo : k < f → O = 0
  mid : f ≤ k → k ≤ to → O + l.pot k ≤ D + (k / E - f / E)
  hi : to ≤ k → O ≤ D + (to / E - f / E)
variable {f to k O : Int} {l' : Ln}
theorem Of.le (h : Of D E f to k O l) (hp : l'.pot k ≤ l.pot k) : Of D E f to k O l' :=
  ⟨h.o0, h.lo, fun a b => by have := h.mid a b; omega, h.hi⟩
theorem Of.inn (h : Of D E f to k O l) (hp : l'.pot k + 1 ≤ l.pot k) (h1 : f ≤ k) (h2 : k < to) : Of D E f to k (O + 1) l' :=
  ⟨by have := h.o0; omega, fun a => by omega, fun a b => by have := h.mid a b; omega, fun a => by omega⟩
theorem pot_0 (hp : l.pends = 0) : l.pot t = bu.tk l.D l.E l.BN l.BT t := by unfold Ln.pot; rw [if_neg (by omega)]; omega
theorem Of.new {H Sp : Int} (hD : 0 ≤ D) (hf : 0 ≤ f) (ht : f ≤ to) : Of D E f to 0 0 (Ln.new C H D E Sm Sp) := by
  have e : (Ln.new C H D E Sm Sp).pot 0 = D := by rw [pot_0 rfl]; exact tk_at (Int.le_refl _)
  refine ⟨Int.le_refl _, fun _ => rfl, fun a b => ?_, fun a => ?_⟩
  · obtain rfl : f = 0 := by omega
    rw [e]; omega
  · obtain rfl : f = 0 := by omega
    obtain rfl : to = 0 := by omega
    omega
theorem Of.next (h : Of D E f to k O l) (ok : l.ok k R) (he : l.E = E) (hd : l.D = D) (hp : l.pends = 0) (hf : f ≤ to) : Of D E f to (k + 1) O l := by
  have hE : 0 < E := by have := ok.b.2.2.1; omega
  have pn := pot_next ok (show k ≤ k + 1 by omega)
  rw [he] at pn
  have bd := ok_tk (show l.ok (k + 1) R from ⟨ok.may, ok.g, by have := ok.gn; omega, ok.b, by have := ok.bn; omega, ok.h0, ok.p0, ok.w0, ok.r0, ok.sum, ok.rs, ok.big⟩)
  rw [← pot_0 hp] at bd
  have md : f ≤ k + 1 → k + 1 ≤ to → O + l.pot (k + 1) ≤ D + ((k + 1) / E - f / E) := fun a b => by
    by_cases e : f = k + 1
    · have := h.lo (by omega); rw [e]; omega
    · have := h.mid (by omega) (by omega); omega
  refine ⟨h.o0, fun a => h.lo (by omega), md, fun a => ?_⟩
  by_cases e : to = k + 1
  · have := md (by omega) (by omega); rw [e]; omega
  · exact h.hi (by omega)
theorem Ln.ok.later (ok : l.ok t R) {t' : Int} (ht : t ≤ t') : l.ok t' R := ⟨ok.may, ok.g, by have := ok.gn; omega, ok.b, by have := ok.bn; omega, ok.h0, ok.p0, ok.w0, ok.r0, ok.sum, ok.rs, ok.big⟩
theorem Of.done (h : Of D E f to k O l) (ok : l.ok k R) (hE : 1 ≤ E) (h1 : 0 ≤ f) (h2 : f ≤ to) (h3 : f ≤ k) : O ≤ D + (to - f) / E + 1 := by
  have hp : 0 ≤ l.pot k := by have := (ok_tk ok).1; unfold Ln.pot; split <;> omega
  have hx : O ≤ D + (to / E - f / E) := by
    by_cases e : to ≤ k
    · exact h.hi e
    · have := h.mid h3 (by omega)
      have m : k / E ≤ to / E := Int.ediv_le_ediv (by omega) (by omega)
      omega
  have a1 := Int.lt_ediv_add_one_mul_self f (show 0 < E by omega)
  have a2 := Int.lt_ediv_add_one_mul_self (to - f) (show 0 < E by omega)
  have a3 : to / E < f / E + (to - f) / E + 2 := by
    apply Int.ediv_lt_of_lt_mul (by omega)
    have e1 : (f / E + (to - f) / E + 2) * E = (f / E + 1) * E + ((to - f) / E + 1) * E := by rw [← Int.add_mul]; congr 1; omega
    rw [e1]; omega
  omega
end
end Go.Proofs.Ytaoioejgealciaa
