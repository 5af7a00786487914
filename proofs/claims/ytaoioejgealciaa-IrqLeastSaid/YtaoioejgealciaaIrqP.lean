/- Layer 13: lines that gather nothing and have tokens enough. -/
import Derived.Test.YtaoioejgealciaaIrqO
namespace Go.Proofs.Ytaoioejgealciaa
open Go.RowKit
set_option linter.unusedVariables false
set_option maxRecDepth 100000
/-- A line that gathers nothing, with tokens enough: w raised and not acknowledged, r raised at all. -/
structure Lu (w r : Int) (m : Bool) (l : Ln) : Prop where
  ma : l.masked = m
  c : l.C = 1
  d : l.D = 100
  e : l.E = 10
  st : l.St = 1000
  ws : l.ws = []
  sum : l.held + l.pends = w
  tok : 100 + l.held ≤ bu.tk l.D l.E l.BN l.BT 1 + r
structure Lt (w r : Int) (m : Bool) (l : Ln) : Prop extends Lu w r m l where
  del : m = false → l.held = 0 ∨ 0 < l.pends
section
variable {w r t R : Int} {m : Bool} {l : Ln}
theorem Ln.ok.at1 (ok : l.ok t R) (ht : t ≤ 1) : l.ok 1 R := ⟨ok.may, ok.g, by have := ok.gn; omega, ok.b, by have := ok.bn; omega, ok.h0, ok.p0, ok.w0, ok.r0, ok.sum, ok.rs, ok.big⟩
theorem Lu.deliver (h : Lu w r m l) (ok : l.ok 1 R) (hr : r ≤ 60) : Lt w r m (l.deliver 1) := by
  have bd := ok_tk ok
  have h0 := ok.h0
  have p0 := ok.p0
  have ht := h.tok
  have hs := h.sum
  unfold Ln.deliver
  split
  · rename_i hc
    refine ⟨h, fun e => ?_⟩
    rcases hc with hc | hc | hc
    · rw [h.ma, e] at hc; cases hc
    · exact Or.inr hc
    · exact Or.inl hc
  · rename_i hn
    have hp : ¬ 0 < l.pends := fun x => hn (Or.inr (Or.inl x))
    have hh : l.held ≠ 0 := fun x => hn (Or.inr (Or.inr x))
    split
    · rename_i hz
      omega
    · refine ⟨⟨h.ma, h.c, h.d, h.e, h.st, h.ws, by show 0 + l.held = w; omega, ?_⟩, fun _ => Or.inl rfl⟩
      show 100 + 0 ≤ bu.tk l.D l.E 1 (bu.tk l.D l.E l.BN l.BT 1 - 1) 1 + r
      rw [tk_at (by omega)]
      omega
theorem Lu.fired (h : Lu w r m l) : Lu w r m (l.fired 1) := by
  unfold Ln.fired
  rw [if_neg (by rw [h.ws]; simp)]
  exact ⟨h.ma, h.c, h.d, h.e, h.st, h.ws, h.sum, h.tok⟩
theorem Lu.goOn (h : Lu w r m l) (ok : l.ok t R) (ht : t ≤ 1) (hr : r ≤ 60) : Lt w r m (l.goOn 1) :=
  h.fired.deliver (Ln.fired_ok ok (by omega) ht (by omega)) hr
theorem Lt.raise (h : Lt w r false l) (ok : l.ok 1 r) (hr : r + 1 ≤ 60) : Lt (w + 1) (r + 1) false (l.raise 1).1 := by
  have hc := Ln.count_ok ok (by omega) (by omega)
  have hs := ok.sum
  have hg := Ln.gathered_ok hc (show l.held + l.pends + l.ws.length ≤ r from hs) (by omega) (by omega)
  have hrs := hc.rs
  have ht := h.tok
  have hw := h.sum
  unfold Ln.raise
  rw [if_neg (by rw [h.ma]; decide), if_neg (by rw [h.st]; omega)]
  refine Lu.deliver ?_ hg hr
  unfold Ln.gathered
  rw [if_pos (Or.inl (by show l.C ≤ (l.ws.length : Int) + 1; rw [h.c, h.ws]; simp))]
  refine ⟨h.ma, h.c, h.d, h.e, h.st, rfl, ?_, ?_⟩
  · show l.held + ((l.ws.length : Int) + 1) + l.pends = w + 1
    rw [h.ws]; simp; omega
  · show 100 + (l.held + ((l.ws.length : Int) + 1)) ≤ bu.tk l.D l.E l.BN l.BT 1 + (r + 1)
    rw [h.ws]; simp; omega
theorem Lt.mask (h : Lt w r m l) (ok : l.ok 1 R) (hr : r ≤ 60) (on : Bool) : Lt w r on (l.mask 1 on) := by
  have hx : ({ l with masked := on } : Ln).ok 1 R := ⟨ok.may, ok.g, ok.gn, ok.b, ok.bn, ok.h0, ok.p0, ok.w0, ok.r0, ok.sum, ok.rs, ok.big⟩
  exact Lu.deliver (l := { l with masked := on }) ⟨rfl, h.c, h.d, h.e, h.st, h.ws, h.sum, h.tok⟩ hx hr
theorem Lt.ack (h : Lt w r m l) (ok : l.ok 1 R) (hr : r ≤ 60) : Lt (w - l.pends) r m (l.ack 1) := by
  have hs := ok.sum
  have hp := ok.p0
  have hw := h.sum
  have hx : ({ l with pends := 0 } : Ln).ok 1 R := ⟨ok.may, ok.g, ok.gn, ok.b, ok.bn, ok.h0, Int.le_refl _, ok.w0, ok.r0, by show l.held + 0 + (l.ws.length : Int) ≤ R; omega, ok.rs, ok.big⟩
  exact Lu.deliver (l := { l with pends := 0 }) ⟨h.ma, h.c, h.d, h.e, h.st, h.ws, by show l.held + 0 = w - l.pends; omega, h.tok⟩ hx hr
theorem Lt.fresh (h : Lt w r m l) (ok : l.ok t R) (ht : t ≤ 1) (h0 : 0 ≤ t) : Lt w r m (l.fresh t) := by
  refine ⟨⟨h.ma, h.c, h.d, h.e, h.st, h.ws, h.sum, ?_⟩, h.del⟩
  have bd := ok_tk ok
  have hn := ok.bn
  have h2 := ok.b.2.2.2.2.1
  show 100 + l.held ≤ bu.tk l.D l.E t (bu.tk l.D l.E l.BN l.BT t) 1 + r
  have := h.tok
  have e1 : t = 0 ∨ t = 1 := by omega
  rcases e1 with rfl | rfl
  · have e2 : l.BN = 0 := by omega
    rw [e2] at bd this ⊢
    unfold bu.tk at bd this ⊢
    rw [h.e] at *
    have e3 : (0 : Int) / 10 = 0 := rfl
    have e4 : (1 : Int) / 10 = 0 := rfl
    rw [e3] at *
    rw [e4] at *
    split <;> split at this <;> split <;> omega
  · rw [tk_at bd.2]; exact this
theorem Lt.new : Lt 0 0 false (Ln.new 1 0 100 10 1000 100) := ⟨⟨rfl, rfl, rfl, rfl, rfl, rfl, rfl, by decide⟩, fun _ => Or.inl rfl⟩
end
/-- So stand sixteen lines: W not acknowledged, Rk raised, M masked. -/
def FL (now : Int) (W Rk : Nat → Int) (M : Nat → Bool) (ls : Nat → Ln) : Prop := ∀ j, j < 16 → (ls j).ok now (Rk j) ∧ Lt (W j) (Rk j) (M j) (ls j) ∧ Rk j ≤ 60
section
variable {now : Int} {W Rk : Nat → Int} {M : Nat → Bool} {ls : Nat → Ln}
theorem FL.goes (h : FL now W Rk M ls) (h0 : 0 ≤ now) (h1 : now ≤ 1) : FL 1 W Rk M (goAll ls 1 16) := fun j hj => by
  obtain ⟨a, b, c⟩ := h j hj
  rw [goAll_lt hj]
  exact ⟨Ln.goOn_ok a (by omega) h1 (by omega), b.toLu.goOn a h1 c, c⟩
theorem FL.upd (h : FL 1 W Rk M ls) {k : Nat} {x y : Int} {m : Bool} {l : Ln} (hl : l.ok 1 y ∧ Lt x y m l ∧ y ≤ 60) : FL 1 (updL W k x) (updL Rk k y) (updL M k m) (updL ls k l) := fun j hj => by
  by_cases e : j = k
  · subst e; simp only [updL_same]; exact hl
  · have hh := h j hj
    simp only [updL, if_neg e]; exact hh
theorem FL.raise (h : FL now W Rk M ls) (h0 : 0 ≤ now) (h1 : now ≤ 1) {k : Nat} (hk : k < 16) (hm : M k = false) (hr : Rk k + 1 ≤ 60) :
    FL 1 (updL W k (W k + 1)) (updL Rk k (Rk k + 1)) M (updL (goAll ls 1 16) k (((ls k).goOn 1).raise 1).1) := by
  have g := h.goes h0 h1
  obtain ⟨a, b, c⟩ := g k hk
  rw [goAll_lt hk] at a b
  rw [hm] at b
  have := g.upd (k := k) (m := false) ⟨Ln.raise_ok a (by omega) (by omega) (by omega), b.raise a hr, hr⟩
  rwa [← hm, updL_self] at this
theorem FL.mask (h : FL now W Rk M ls) (h0 : 0 ≤ now) (h1 : now ≤ 1) {k : Nat} (hk : k < 16) (on : Bool) :
    FL 1 W Rk (updL M k on) (updL (goAll ls 1 16) k (((ls k).goOn 1).mask 1 on)) := by
  have g := h.goes h0 h1
  obtain ⟨a, b, c⟩ := g k hk
  rw [goAll_lt hk] at a b
  have := g.upd (k := k) (m := on) ⟨Ln.mask_ok a (by omega) on, b.mask a c on, c⟩
  rwa [updL_self, updL_self] at this
theorem FL.ack (h : FL now W Rk M ls) (h0 : 0 ≤ now) (h1 : now ≤ 1) {k : Nat} (hk : k < 16) {l1 : Ln} (hl : l1 = ls k ∨ l1 = (ls k).fresh now) :
    (l1.goOn 1).pends ≤ W k ∧ FL 1 (updL W k (W k - (l1.goOn 1).pends)) Rk M (updL (goAll ls 1 16) k ((l1.goOn 1).ack 1)) := by
  have g := h.goes h0 h1
  obtain ⟨a, b, c⟩ := h k hk
  have hx : l1.ok now (Rk k) ∧ Lt (W k) (Rk k) (M k) l1 := by
    rcases hl with rfl | rfl
    · exact ⟨a, b⟩
    · exact ⟨Ln.fresh_ok a h0, b.fresh a h1 h0⟩
  have y1 := Ln.goOn_ok hx.1 (show (0 : Int) ≤ 1 by omega) h1 (by omega)
  have y2 := hx.2.toLu.goOn hx.1 h1 c
  refine ⟨by have := y2.sum; have := y1.h0; omega, ?_⟩
  have := g.upd (k := k) (m := M k) ⟨Ln.ack_ok y1 (by omega), y2.ack y1 c, c⟩
  rwa [updL_self, updL_self] at this
theorem FL.pend (h : FL now W Rk M ls) {k : Nat} (hk : k < 16) : ((ls k).masked = false ∧ 0 < (ls k).pends) ↔ (M k = false ∧ 0 < W k) := by
  obtain ⟨a, b, c⟩ := h k hk
  have hs := b.sum
  have h0 := a.h0
  rw [b.ma]
  constructor
  · rintro ⟨x, y⟩; exact ⟨x, by omega⟩
  · rintro ⟨x, y⟩; exact ⟨x, by rcases b.del x with z | z <;> omega⟩
/-- The least line from i on of which something is there and that is not masked. -/
def LeastP (W : Nat → Int) (M : Nat → Bool) (i : Nat) (v : Int) : Prop :=
  (∃ k : Nat, i ≤ k ∧ k < 16 ∧ v = k ∧ (M k = false ∧ 0 < W k) ∧ ∀ j, i ≤ j → j < k → ¬ (M j = false ∧ 0 < W j)) ∨ (v = -1 ∧ ∀ j, i ≤ j → j < 16 → ¬ (M j = false ∧ 0 < W j))
theorem LeastP.top : LeastP W M 16 (-1) := Or.inr ⟨rfl, fun j a b => by omega⟩
theorem LeastP.yes {i : Nat} (hi : i < 16) (h : M i = false ∧ 0 < W i) : LeastP W M i i := Or.inl ⟨i, Nat.le_refl _, hi, rfl, h, fun j a b => by omega⟩
theorem LeastP.no {i : Nat} {v : Int} (hi : i < 16) (h : ¬ (M i = false ∧ 0 < W i)) (hv : LeastP W M (i + 1) v) : LeastP W M i v := by
  have st : ∀ j, i ≤ j → i + 1 ≤ j ∨ j = i := fun j a => by omega
  rcases hv with ⟨k, a, b, c, d, e⟩ | ⟨a, b⟩
  · refine Or.inl ⟨k, by omega, b, c, d, fun j x y => ?_⟩
    rcases st j x with z | z
    · exact e j z y
    · rw [z]; exact h
  · refine Or.inr ⟨a, fun j x y => ?_⟩
    rcases st j x with z | z
    · exact b j z y
    · rw [z]; exact h
/-- What a call to Pending answers is what is least. -/
theorem FL.least (h : FL now W Rk M ls) {a p v : Int} {ok : Bool} (hp : PendP ls 16 a p ok) (hv : LeastP W M 0 v) : (ok = true ∧ a = v ∧ ∃ k : Nat, k < 16 ∧ a = k ∧ M k = false ∧ 0 < W k) ∨ (ok = false ∧ v = -1) := by
  rcases hp with ⟨k, h1, h2, h3, h4, h5, h6, h7⟩ | ⟨h1, h2, h3, h4⟩
  · have hk := (h.pend h1).1 ⟨h5, h6⟩
    refine Or.inl ⟨h4, ?_, k, h1, h2, hk⟩
    rcases hv with ⟨k2, a1, a2, a3, a4, a5⟩ | ⟨a1, a2⟩
    · have h8 : ¬ k2 < k := fun x => h7 k2 x ((h.pend a2).2 a4)
      have h9 : ¬ k < k2 := fun x => a5 k (Nat.zero_le _) x hk
      omega
    · exact absurd hk (a2 k (Nat.zero_le _) h1)
  · refine Or.inr ⟨h3, ?_⟩
    rcases hv with ⟨k2, a1, a2, a3, a4, a5⟩ | ⟨a1, a2⟩
    · exact absurd ((h.pend a2).2 a4) (h4 k2 a2)
    · exact a1
end
end Go.Proofs.Ytaoioejgealciaa
