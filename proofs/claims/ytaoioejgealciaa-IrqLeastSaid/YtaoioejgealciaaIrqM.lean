/- Layer 13: lines of interrupts. Plain theorems. -/
import Derived.Test.YtaoioejgealciaaCoalP
import Derived.Test.YtaoioejgealciaaBuckN
import Derived.Test.YtaoioejgealciaaMore
namespace Go.Proofs.Ytaoioejgealciaa
open Go.RowKit
set_option linter.unusedVariables false
/-- A line: what it may, what was gathered, its tokens, and how it stands. -/
structure Ln where
  C : Int
  H : Int
  D : Int
  E : Int
  St : Int
  Sp : Int
  N : Int
  ws : List Int
  BN : Int
  BT : Int
  held : Int
  pends : Int
  masked : Bool
  win : Int
  raises : Int
/-- May a line be? -/
def mayL (C H D E St Sp : Int) : Prop := (1 ≤ C ∧ C ≤ 1000 ∧ 0 ≤ H ∧ H ≤ 1099511627776) ∧ (1 ≤ D ∧ D ≤ 1000 ∧ 1 ≤ E ∧ E ≤ 1099511627776) ∧ (1 ≤ St ∧ St ≤ 10000) ∧ 1 ≤ Sp ∧ Sp ≤ 1099511627776
def Ln.new (C H D E St Sp : Int) : Ln := ⟨C, H, D, E, St, Sp, 0, [], 0, D, 0, 0, false, 0, 0⟩
/-- What is held pends, if it may. -/
def Ln.deliver (l : Ln) (t : Int) : Ln :=
  if l.masked = true ∨ 0 < l.pends ∨ l.held = 0 then l
  else if bu.tk l.D l.E l.BN l.BT t = 0 then { l with BN := t, BT := 0 }
  else { l with BN := t, BT := bu.tk l.D l.E l.BN l.BT t - 1, pends := l.held, held := 0 }
/-- The time goes on: what is due is fired. -/
def Ln.fired (l : Ln) (t : Int) : Ln :=
  if 1 ≤ l.ws.length ∧ l.ws.getD 0 0 + l.H ≤ t then { l with N := t, ws := [], held := l.held + l.ws.length } else { l with N := t }
def Ln.goOn (l : Ln) (t : Int) : Ln := (l.fired t).deliver t
/-- A raise is counted in its window. -/
def Ln.count (l : Ln) (t : Int) : Ln := { l with win := t / l.Sp, raises := (if t / l.Sp = l.win then l.raises else 0) + 1 }
/-- A raise more is gathered, of a line whose time has gone on. -/
def Ln.gathered (l : Ln) (t : Int) : Ln :=
  if l.C ≤ (l.ws.length : Int) + 1 ∨ l.H = 0 then { l with N := t, ws := [], held := l.held + (l.ws.length + 1) } else { l with N := t, ws := l.ws ++ [t] }
/-- A raise, of a line whose time has gone on; is it a storm? -/
def Ln.raise (l : Ln) (t : Int) : Ln × Bool :=
  if l.masked = true then (l, false)
  else if l.St < (l.count t).raises then ({ l.count t with masked := true, N := 0, ws := [] }, true)
  else (((l.count t).gathered t).deliver t, false)
/-- What was pending is acknowledged. -/
def Ln.ack (l : Ln) (t : Int) : Ln := ({ l with pends := 0 } : Ln).deliver t
def Ln.mask (l : Ln) (t : Int) (on : Bool) : Ln := ({ l with masked := on } : Ln).deliver t
/-- What holds of a line at time t; R: as many were raised. -/
structure Ln.ok (l : Ln) (t R : Int) : Prop where
  may : mayL l.C l.H l.D l.E l.St l.Sp
  g : WOK l.C l.H l.N l.ws
  gn : l.N ≤ t
  b : bu.BkOK l.D l.E l.BN l.BT
  bn : l.BN ≤ t
  h0 : 0 ≤ l.held
  p0 : 0 ≤ l.pends
  w0 : 0 ≤ l.win
  r0 : 0 ≤ l.raises
  sum : l.held + l.pends + l.ws.length ≤ R
  rs : l.raises ≤ R
  big : R ≤ 1000000000000
theorem Ln.new_ok {C H D E St Sp : Int} (h : mayL C H D E St Sp) : (Ln.new C H D E St Sp).ok 0 0 := by
  have h0 := h
  obtain ⟨⟨h1, h2, h3, h4⟩, ⟨h5, h6, h7, h8⟩, _, _, _⟩ := h
  refine ⟨h0, ⟨⟨h1, h2, h3, h4⟩, ⟨by show (0 : Int) ≤ 0; omega, by show (0 : Int) < _; omega⟩, by show ((0 : Nat) : Int) < C; omega, fun k hk => absurd hk (Nat.not_lt_zero k)⟩, Int.le_refl _, ⟨h5, h6, h7, h8, Int.le_refl _, by show 0 ≤ D; omega, Int.le_refl _⟩, Int.le_refl _, Int.le_refl _, Int.le_refl _, Int.le_refl _, Int.le_refl _, by show (0 : Int) + 0 + ((0 : Nat) : Int) ≤ 0; omega, Int.le_refl _, by decide⟩
theorem Ln.deliver_ok {l : Ln} {t R : Int} (h : l.ok t R) (ht : 0 ≤ t) : (l.deliver t).ok t R := by
  have hb := h.b
  obtain ⟨b1, b2, b3, b4, b5, b6, b7⟩ := hb
  have bd := bu.tk_bd b5 h.bn b3 b6 b7
  have hs := h.sum
  have h0 := h.h0
  have p0 := h.p0
  unfold Ln.deliver
  split
  · exact h
  · split
    · exact ⟨h.may, h.g, h.gn, ⟨b1, b2, b3, b4, ht, Int.le_refl _, by show (0 : Int) ≤ l.D; omega⟩, Int.le_refl _, h.h0, h.p0, h.w0, h.r0, h.sum, h.rs, h.big⟩
    · exact ⟨h.may, h.g, h.gn, ⟨b1, b2, b3, b4, ht, by show (0 : Int) ≤ _ - 1; omega, by show _ - 1 ≤ l.D; omega⟩, Int.le_refl _, Int.le_refl _, h.h0, h.w0, h.r0, by show 0 + l.held + (l.ws.length : Int) ≤ R; omega, h.rs, h.big⟩
theorem Ln.fired_ok {l : Ln} {t t' R : Int} (h : l.ok t R) (h0 : 0 ≤ t') (ht : t ≤ t') (hl : t' < 4611686018427387904) : (l.fired t').ok t' R := by
  have hg := h.g
  have hgn := h.gn
  have hbn := h.bn
  have hs := h.sum
  have hh := h.h0
  unfold Ln.fired
  split
  · refine ⟨h.may, ⟨hg.c, ⟨h0, hl⟩, by have := hg.c; show ((0 : Nat) : Int) < l.C; omega, fun k hk => absurd hk (Nat.not_lt_zero k)⟩, Int.le_refl _, h.b, by show l.BN ≤ t'; omega, by show 0 ≤ l.held + _; omega, h.p0, h.w0, h.r0, by show l.held + (l.ws.length : Int) + l.pends + ((0 : Nat) : Int) ≤ R; omega, h.rs, h.big⟩
  · exact ⟨h.may, ⟨hg.c, ⟨h0, hl⟩, hg.len, hg.all⟩, Int.le_refl _, h.b, by show l.BN ≤ t'; omega, h.h0, h.p0, h.w0, h.r0, h.sum, h.rs, h.big⟩
theorem Ln.goOn_ok {l : Ln} {t t' R : Int} (h : l.ok t R) (h0 : 0 ≤ t') (ht : t ≤ t') (hl : t' < 4611686018427387904) : (l.goOn t').ok t' R :=
  Ln.deliver_ok (Ln.fired_ok h h0 ht hl) h0
theorem Ln.count_ok {l : Ln} {t R : Int} (h : l.ok t R) (ht : 0 ≤ t) (hR : R + 1 ≤ 1000000000000) : (l.count t).ok t (R + 1) := by
  have hs := h.sum
  have hr := h.rs
  have hr0 := h.r0
  have hsp := h.may.2.2.2.1
  have hq : 0 ≤ t / l.Sp := Int.ediv_nonneg ht (by omega)
  refine ⟨h.may, h.g, h.gn, h.b, h.bn, h.h0, h.p0, hq, ?_, by show l.held + l.pends + (l.ws.length : Int) ≤ R + 1; omega, ?_, hR⟩
  · show 0 ≤ (if t / l.Sp = l.win then l.raises else 0) + 1
    split <;> omega
  · show (if t / l.Sp = l.win then l.raises else 0) + 1 ≤ R + 1
    split <;> omega
theorem Ln.gathered_ok {l : Ln} {t R : Int} (h : l.ok t (R + 1)) (hs : l.held + l.pends + l.ws.length ≤ R) (ht : 0 ≤ t) (hl : t < 4611686018427387904) : (l.gathered t).ok t (R + 1) := by
  have hg := h.g
  have hh := h.h0
  unfold Ln.gathered
  split
  · exact ⟨h.may, ⟨hg.c, ⟨ht, hl⟩, by have := hg.c; show ((0 : Nat) : Int) < l.C; omega, fun k hk => absurd hk (Nat.not_lt_zero k)⟩, Int.le_refl _, h.b, h.bn, by show 0 ≤ l.held + _; omega, h.p0, h.w0, h.r0, by show l.held + ((l.ws.length : Int) + 1) + l.pends + ((0 : Nat) : Int) ≤ R + 1; omega, h.rs, h.big⟩
  · rename_i hc
    refine ⟨h.may, ⟨hg.c, ⟨ht, hl⟩, by simp; omega, fun k hk => ?_⟩, Int.le_refl _, h.b, h.bn, h.h0, h.p0, h.w0, h.r0, by show l.held + l.pends + ((l.ws ++ [t]).length : Int) ≤ R + 1; simp; omega, h.rs, h.big⟩
    show 0 ≤ (l.ws ++ [t]).getD k 0 ∧ (l.ws ++ [t]).getD k 0 < _
    have hk : k < (l.ws ++ [t]).length := hk
    simp at hk
    rw [getD_app]
    split
    · rename_i h3; exact hg.all k h3
    · split
      · exact ⟨ht, hl⟩
      · omega
theorem Ln.raise_ok {l : Ln} {t R : Int} (h : l.ok t R) (ht : 0 ≤ t) (hl : t < 4611686018427387904) (hR : R + 1 ≤ 1000000000000) : (l.raise t).1.ok t (R + 1) := by
  have hs := h.sum
  have hc := Ln.count_ok h ht hR
  unfold Ln.raise
  split
  · exact ⟨h.may, h.g, h.gn, h.b, h.bn, h.h0, h.p0, h.w0, h.r0, by show l.held + l.pends + (l.ws.length : Int) ≤ R + 1; omega, by show l.raises ≤ R + 1; have := h.rs; omega, hR⟩
  · split
    · refine ⟨hc.may, ⟨hc.g.c, ⟨Int.le_refl _, (by show (0 : Int) < 4611686018427387904; decide)⟩, by have := hc.g.c; show ((0 : Nat) : Int) < l.C; have e : (l.count t).C = l.C := rfl; omega, fun k hk => absurd hk (Nat.not_lt_zero k)⟩, ht, hc.b, hc.bn, hc.h0, hc.p0, hc.w0, hc.r0, ?_, hc.rs, hR⟩
      show l.held + l.pends + ((0 : Nat) : Int) ≤ R + 1
      omega
    · exact Ln.deliver_ok (Ln.gathered_ok hc (show l.held + l.pends + l.ws.length ≤ R from hs) ht hl) ht
theorem Ln.ack_ok {l : Ln} {t R : Int} (h : l.ok t R) (ht : 0 ≤ t) : (l.ack t).ok t R := by
  have hs := h.sum
  have hp := h.p0
  exact Ln.deliver_ok ⟨h.may, h.g, h.gn, h.b, h.bn, h.h0, Int.le_refl _, h.w0, h.r0, by show l.held + 0 + (l.ws.length : Int) ≤ R; omega, h.rs, h.big⟩ ht
theorem Ln.mask_ok {l : Ln} {t R : Int} (h : l.ok t R) (ht : 0 ≤ t) (on : Bool) : (l.mask t on).ok t R :=
  Ln.deliver_ok ⟨h.may, h.g, h.gn, h.b, h.bn, h.h0, h.p0, h.w0, h.r0, h.sum, h.rs, h.big⟩ ht
/-! ### A controller in memory -/
def lnCell (l : Ln) (g b : Nat) : Nat → Value
  | 0 => .int .i64 l.C
  | 1 => .int .u64 l.H
  | 2 => .int .i64 l.D
  | 3 => .int .u64 l.E
  | 4 => .int .i64 l.St
  | 5 => .int .u64 l.Sp
  | 6 => .pointer (some ⟨g, 0, none⟩)
  | 7 => .pointer (some ⟨b, 0, none⟩)
  | 8 => .int .i64 l.held
  | 9 => .int .i64 l.pends
  | 10 => .bool l.masked
  | 11 => .int .u64 l.win
  | _ => .int .i64 l.raises
def noCell : Nat → Value
  | 0 => .int .i64 0
  | 1 => .int .u64 0
  | 2 => .int .i64 0
  | 3 => .int .u64 0
  | 4 => .int .i64 0
  | 5 => .int .u64 0
  | 6 => .pointer none
  | 7 => .pointer none
  | 8 => .int .i64 0
  | 9 => .int .i64 0
  | 10 => .bool false
  | 11 => .int .u64 0
  | _ => .int .i64 0
/-- The controller's cells: of its first m lines so many are laid. -/
def cv (n m : Nat) (now : Int) (ls : Nat → Ln) (gb bb : Nat → Nat) (k : Nat) : Value :=
  if k = 208 then .int .i64 n else if k = 209 then .int .u64 now else if k / 13 < m then lnCell (ls (k / 13)) (gb (k / 13)) (bb (k / 13)) (k % 13) else noCell (k % 13)
theorem cv_at {n m i f : Nat} {now : Int} {ls : Nat → Ln} {gb bb : Nat → Nat} (hi : i < m) (hi2 : i < 16) (hf : f < 13) : cv n m now ls gb bb (i * 13 + f) = lnCell (ls i) (gb i) (bb i) f := by
  unfold cv
  have e1 : (i * 13 + f) / 13 = i := by omega
  have e2 : (i * 13 + f) % 13 = f := by omega
  rw [if_neg (by omega), if_neg (by omega), e1, e2, if_pos hi]
def updL {α : Type} (f : Nat → α) (i : Nat) (x : α) : Nat → α := fun j => if j = i then x else f j
theorem updL_same {α : Type} (f : Nat → α) (i : Nat) (x : α) : updL f i x i = x := if_pos rfl
theorem updL_twice {α : Type} (f : Nat → α) (i : Nat) (x y : α) : updL (updL f i x) i y = updL f i y := by
  funext j; unfold updL; by_cases h : j = i
  · rw [if_pos h, if_pos h]
  · rw [if_neg h, if_neg h, if_neg h]
theorem updL_self {α : Type} (f : Nat → α) (i : Nat) : updL f i (f i) = f := by
  funext j; unfold updL; by_cases h : j = i
  · rw [if_pos h, h]
  · rw [if_neg h]
/-- One field of one line is laid anew. -/
theorem cv_set {n m i f : Nat} {now : Int} {ls : Nat → Ln} {gb bb : Nat → Nat} {u : Value} {l' : Ln} {g' b' : Nat} (hi : i < m) (hi2 : i < 16) (hf : f < 13) (hu : lnCell l' g' b' f = u) (ho : ∀ q, q < 13 → q ≠ f → lnCell l' g' b' q = lnCell (ls i) (gb i) (bb i) q) :
    ∀ j, j < 210 → cv n m now (updL ls i l') (updL gb i g') (updL bb i b') j = if j = i * 13 + f then u else cv n m now ls gb bb j := by
  intro j hj
  by_cases e : j = i * 13 + f
  · rw [if_pos e, e, cv_at hi hi2 hf, updL_same, updL_same, updL_same, hu]
  · rw [if_neg e]
    unfold cv
    by_cases e1 : j = 208
    · rw [if_pos e1, if_pos e1]
    · rw [if_neg e1, if_neg e1]
      by_cases e2 : j = 209
      · rw [if_pos e2, if_pos e2]
      · rw [if_neg e2, if_neg e2]
        by_cases e3 : j / 13 < m
        · rw [if_pos e3, if_pos e3]
          by_cases e4 : j / 13 = i
          · rw [e4, updL_same, updL_same, updL_same]
            exact ho (j % 13) (Nat.mod_lt _ (by omega)) (by omega)
          · unfold updL; rw [if_neg e4, if_neg e4, if_neg e4]
        · rw [if_neg e3, if_neg e3]
theorem cv_now {n m : Nat} {now t : Int} {ls : Nat → Ln} {gb bb : Nat → Nat} : ∀ j, j < 210 → cv n m t ls gb bb j = if j = 209 then .int .u64 t else cv n m now ls gb bb j := by
  intro j hj
  unfold cv
  by_cases e : j = 209
  · rw [if_neg (by omega), if_pos e, if_pos e]
  · rw [if_neg e, if_neg e, if_neg e]
end Go.Proofs.Ytaoioejgealciaa
