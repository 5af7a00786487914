/- Layer 17: what was done up to now, of a server, of a task. Plain theorems. Layer 17: a processor, and what it did up to now. Plain theorems. Layer 17: why no job misses its time. Plain theorems. -/
import Derived.Test.YtdemhhmceiaohaaSchA
import Derived.Test.YtdemhhmceiaohaaCpuZ
namespace Go.Proofs.Ytdemhhmceiaohaa
open Go.RowKit
section
set_option linter.unusedVariables false
theorem countP_notBack {t τ : Int} (h : t ≤ τ) : ∀ xs : List Int, (notBack t xs).countP (fun x => decide (τ < x)) = xs.countP (fun x => decide (τ < x))
  | [] => rfl
  | x :: xs => by
    unfold notBack
    by_cases hx : x ≤ t
    · rw [List.dropWhile_cons_of_pos (by simpa using hx), List.countP_cons_of_neg (by simp; omega)]
      exact countP_notBack h xs
    · rw [List.dropWhile_cons_of_neg (by simpa using hx)]
/-- When a server was served: what comes back, and when. -/
structure SvG (t : Nat) (P B : Int) (xs : List Int) (f : Nat → Bool) : Prop where
  stop : ∀ u, t ≤ u → f u = false
  back : ∀ τ s : Nat, t ≤ τ → (τ : Int) < (s : Int) + P → cntL f s (t - s) ≤ xs.countP (fun x => decide ((τ : Int) < x))
  most : ∀ s, cntL f s P.toNat ≤ B.toNat
theorem SvG.new (P B : Int) : SvG 0 P B [] (fun _ => false) :=
  ⟨fun _ _ => rfl, fun τ s _ _ => by rw [cntL_none fun _ _ _ => rfl]; exact Nat.zero_le _, fun s => by rw [cntL_none fun _ _ _ => rfl]; exact Nat.zero_le _⟩
theorem SvG.seen {t : Nat} {P B : Int} {xs : List Int} {f : Nat → Bool} (h : SvG t P B xs f) : SvG t P B (notBack t xs) f :=
  ⟨h.stop, fun τ s h1 h2 => by rw [countP_notBack (by omega)]; exact h.back τ s h1 h2, h.most⟩
theorem also_false {f : Nat → Bool} {t : Nat} (h : f t = false) : also f t false = f := by
  funext u; unfold also; split
  · rename_i e; rw [e, h]
  · rfl
theorem cntL_step {f : Nat → Bool} {t s : Nat} (h : s ≤ t) : cntL f s (t + 1 - s) = cntL f s (t - s) + (f t).toNat := by
  rw [show t + 1 - s = (t - s) + 1 by omega]
  show _ + (f (s + (t - s))).toNat = _
  rw [show s + (t - s) = t by omega]
theorem cntL_gone {f : Nat → Bool} {t s : Nat} (h : t ≤ s) : cntL f s (t - s) = 0 := by
  rw [show t - s = 0 by omega]; rfl
theorem SvG.pass {t : Nat} {P B : Int} {xs : List Int} {f : Nat → Bool} (h : SvG t P B xs f) : SvG (t + 1) P B xs (also f t false) := by
  rw [also_false (h.stop t (Nat.le_refl _))]
  refine ⟨fun u hu => h.stop u (by omega), fun τ s h1 h2 => ?_, h.most⟩
  by_cases hs : s ≤ t
  · rw [cntL_step hs, h.stop t (Nat.le_refl _)]
    exact h.back τ s (by omega) h2
  · rw [cntL_gone (by omega)]; exact Nat.zero_le _
theorem SvG.use {t : Nat} {P B : Int} {xs : List Int} {f : Nat → Bool} (h : SvG t P B xs f) (hP : 1 ≤ P) (hl : ((notBack t xs).length : Int) < B) : SvG (t + 1) P B (useL B P t xs) (also f t true) := by
  have hu : useL B P t xs = notBack t xs ++ [(t : Int) + P] := if_pos hl
  rw [hu]
  refine ⟨fun u hu => ?_, fun τ s h1 h2 => ?_, fun s => ?_⟩
  · rw [also_ne f _ (by omega)]; exact h.stop u (by omega)
  · rw [List.countP_append, countP_notBack (by omega)]
    by_cases hs : s ≤ t
    · rw [cntL_step hs, also_self, cntL_also_out _ (Or.inr (by omega))]
      have := h.back τ s (by omega) h2
      have e : [(t : Int) + P].countP (fun x => decide ((τ : Int) < x)) = 1 := by
        rw [List.countP_cons_of_pos (by simp; omega)]; rfl
      rw [e]
      exact Nat.add_le_add_right this 1
    · rw [cntL_gone (by omega)]; exact Nat.zero_le _
  · by_cases hs : s ≤ t ∧ t < s + P.toNat
    · rw [cntL_also true hs.1 hs.2 (h.stop t (Nat.le_refl _)), cntL_stop h.stop hs.1 (by omega)]
      have h1 := h.back t s (Nat.le_refl _) (by omega)
      rw [← countP_notBack (Int.le_refl (t : Int))] at h1
      have h2 := List.countP_le_length (p := fun x => decide ((t : Int) < x)) (l := notBack t xs)
      show _ + 1 ≤ _
      omega
    · rw [cntL_also_out _ (by omega)]; exact h.most s
/-- When a task's jobs were released (r), ran (f), and were there as the time came (p). -/
structure TkG (t : Nat) (x : CTk) (f r p : Nat → Bool) : Prop where
  c1 : 1 ≤ x.cost
  p1 : 1 ≤ x.per
  stop : ∀ u, t ≤ u → f u = false
  rst : ∀ u, t < u → r u = false
  rr : ∀ u : Nat, r u = true → x.began = true ∧ (u : Int) ≤ x.rel
  one : ∀ s, cntL r s x.per.toNat ≤ 1
  rel : x.there = true → 0 ≤ x.rel ∧ x.rel ≤ t ∧ x.unt = x.rel + x.dead
  lim : x.there = true → 0 ≤ x.ran ∧ x.ran < x.cost
  pend : x.there = true → ∀ u : Nat, u ≤ t → x.rel < u → p u = true
  load : ∀ a, a ≤ t → p a = false → cntL f a (t - a) + (if x.there = true then (x.cost - x.ran).toNat else 0) ≤ x.cost.toNat * cntL r a (t + 1 - a)
theorem TkG.release {t : Nat} {x : CTk} {f r p : Nat → Bool} (h : TkG t x f r p) (dem : Int) (hn : x.there = false) (hp : x.began = true → x.per ≤ (t : Int) - x.rel) : TkG t (relT x t dem) f (also r t true) p := by
  have hr : r t = false := by
    cases hc : r t with
    | false => rfl
    | true => have := h.rr t hc; have := hp this.1; have := h.p1; omega
  refine ⟨h.c1, h.p1, h.stop, fun u hu => by rw [also_ne r _ (by omega)]; exact h.rst u hu, fun u hu => ?_, fun s => ?_, fun _ => ⟨by show (0 : Int) ≤ t; omega, Int.le_refl _, rfl⟩, fun _ => ⟨Int.le_refl _, by show (0 : Int) < x.cost; have := h.c1; omega⟩, fun _ u h1 h2 => ?_, fun a h1 h2 => ?_⟩
  · refine ⟨rfl, ?_⟩
    show (u : Int) ≤ t
    by_cases e : u = t
    · omega
    · rw [also_ne r _ e] at hu
      have := h.rr u hu
      have := hp this.1; have := h.p1; omega
  · show cntL (also r t true) s x.per.toNat ≤ 1
    by_cases hs : s ≤ t ∧ t < s + x.per.toNat
    · rw [cntL_also true hs.1 hs.2 hr, cntL_none fun u h1 _ => ?_]
      · exact Nat.le_refl _
      · cases hc : r u with
        | false => rfl
        | true => have := h.rr u hc; have := hp this.1; omega
    · rw [cntL_also_out _ (by omega)]; exact h.one s
  · exact absurd h2 (by show ¬ ((t : Int) < u); omega)
  · have h3 := h.load a h1 h2
    rw [if_neg (by rw [hn]; decide), Nat.add_zero] at h3
    rw [if_pos (show (relT x t dem).there = true from rfl)]
    show cntL f a (t - a) + (x.cost - 0).toNat ≤ x.cost.toNat * cntL (also r t true) a (t + 1 - a)
    rw [cntL_also true h1 (by omega) hr, Nat.mul_add, Int.sub_zero]
    show _ ≤ _ + x.cost.toNat * 1
    omega
theorem TkG.pass {t : Nat} {x : CTk} {f r p : Nat → Bool} (h : TkG t x f r p) : TkG (t + 1) x (also f t false) r (also p (t + 1) x.there) := by
  rw [also_false (h.stop t (Nat.le_refl _))]
  refine ⟨h.c1, h.p1, fun u hu => h.stop u (by omega), fun u hu => h.rst u (by omega), h.rr, h.one, fun hx => ⟨(h.rel hx).1, by have := (h.rel hx).2.1; omega, (h.rel hx).2.2⟩, h.lim, fun hx u h1 h2 => ?_, fun a h1 h2 => ?_⟩
  · by_cases e : u = t + 1
    · rw [e, also_self, hx]
    · rw [also_ne p _ e]; exact h.pend hx u (by omega) h2
  · by_cases e : a = t + 1
    · subst e
      rw [also_self] at h2
      rw [cntL_gone (Nat.le_refl _), if_neg (by rw [h2]; decide)]; exact Nat.zero_le _
    · rw [also_ne p _ e] at h2
      rw [cntL_step (show a ≤ t by omega), h.stop t (Nat.le_refl _), cntL_step (show a ≤ t + 1 by omega), h.rst (t + 1) (by omega)]
      exact h.load a (by omega) h2
theorem TkG.ran {t : Nat} {x : CTk} {f r p : Nat → Bool} (h : TkG t x f r p) (hx : x.there = true) : TkG (t + 1) (runT x) (also f t true) r (also p (t + 1) (runT x).there) := by
  obtain ⟨l0, l1⟩ := h.lim hx
  have hth : (runT x).there = true → x.ran + 1 ≠ x.cost := fun hh e => by
    unfold runT overT at hh
    dsimp only at hh
    rw [e] at hh; simp at hh
  refine ⟨h.c1, h.p1, fun u hu => by rw [also_ne f _ (by omega)]; exact h.stop u (by omega), fun u hu => h.rst u (by omega), h.rr, h.one, fun _ => ⟨(h.rel hx).1, by have := (h.rel hx).2.1; show x.rel ≤ ((t + 1 : Nat) : Int); omega, (h.rel hx).2.2⟩, fun hh => ⟨by show 0 ≤ x.ran + 1; omega, by show x.ran + 1 < x.cost; have := hth hh; omega⟩, fun hh u h1 h2 => ?_, fun a h1 h2 => ?_⟩
  · by_cases e : u = t + 1
    · rw [e, also_self, hh]
    · rw [also_ne p _ e]; exact h.pend hx u (by omega) h2
  · by_cases e : a = t + 1
    · subst e
      rw [also_self] at h2
      rw [cntL_gone (Nat.le_refl _), if_neg (by rw [h2]; decide)]; exact Nat.zero_le _
    · rw [also_ne p _ e] at h2
      rw [cntL_step (show a ≤ t by omega), also_self, cntL_also_out _ (Or.inr (by omega)), cntL_step (show a ≤ t + 1 by omega), h.rst (t + 1) (by omega)]
      have h3 := h.load a (by omega) h2
      rw [if_pos hx] at h3
      show cntL f a (t - a) + 1 + (if (runT x).there = true then (x.cost - (x.ran + 1)).toNat else 0) ≤ x.cost.toNat * cntL r a (t + 1 - a)
      split <;> omega
/-- The first of all is of the most urgent ones. -/
theorem flat_head {f : Nat → List Nat} {x : Nat × Nat} {t : List (Nat × Nat)} : ∀ {k : Nat}, flat f k = x :: t → ∀ y ∈ flat f k, x.2 ≤ y.2
  | 0, h, _, _ => by simp [flat] at h
  | k + 1, h, y, hy => by
    simp only [flat] at h hy
    cases hc : flat f k with
    | nil =>
      rw [hc, List.nil_append] at h hy
      have hx : x ∈ (f k).map fun i => (i, k) := by rw [h]; exact List.mem_cons_self
      rw [List.mem_map] at hx hy
      obtain ⟨_, _, rfl⟩ := hx
      obtain ⟨_, _, rfl⟩ := hy
      exact Nat.le_refl _
    | cons z l =>
      rw [hc] at h
      injection h with h1 h2
      subst h1
      have hz : z ∈ flat f k := by rw [hc]; exact List.mem_cons_self
      rcases List.mem_append.1 hy with hy | hy
      · exact flat_head hc y hy
      · rw [List.mem_map] at hy
        obtain ⟨_, _, rfl⟩ := hy
        have := (flat_mem.1 hz).1
        show z.2 ≤ k; omega
end
section
set_option linter.unusedVariables false
/-- When that one ran. -/
def hit (h : Nat → Int) (x : Int) : Nat → Bool := fun u => decide (h u = x)
def putH (h : Nat → Int) (t : Nat) (x : Int) : Nat → Int := fun u => if u = t then x else h u
theorem hit_put (h : Nat → Int) (t : Nat) (x y : Int) : hit (putH h t x) y = also (hit h y) t (decide (x = y)) := by
  funext u; unfold hit putH also; split <;> rfl
def putP (T : Nat → CTk) (p : Nat → Nat → Bool) (t : Nat) : Nat → Nat → Bool := fun j => also (p j) t (T j).there
/-- A task, and a load, as handed in. -/
def asW (x : CTk) (y : Wk) : Prop := x.prio = y.prio ∧ x.cost = y.cost ∧ x.per = y.per ∧ x.dead = y.dead
def asS (x : Sv) (y : Ld) : Prop := x.B = y.b ∧ x.P = y.per
structure Gh (n m : Nat) (W : Nat → Wk) (S : Nat → Ld) (t : Nat) (T : Nat → CTk) (V : Nat → Sv) (s : QS) (h : Nat → Int) (r p : Nat → Nat → Bool) : Prop where
  n1 : n ≤ 32
  m1 : m ≤ 16
  wok : ∀ j, j < n → (W j).ok
  sok : ∀ k, k < m → (S k).ok
  ws : ∀ j, j < n → asW (T j) (W j)
  ss : ∀ k, k < m → asS (V k) (S k)
  tk : ∀ j, j < n → TkG t (T j) (hit h (j : Int)) (r j) (p j)
  tr : ∀ j, j < n → 0 ≤ (T j).rel ∧ (T j).rel ≤ t
  sv : ∀ k, k < m → SvG t (V k).P (V k).B (V k).xs (hit h (100 + (k : Int)))
  so : ∀ k, k < m → SvOK t (V k)
  q : s.ok 64
  link : ∀ j a, s.pr j = some a ↔ j < n ∧ (T j).there = true ∧ (T j).prio = (a : Int)
section
variable {n m : Nat} {W : Nat → Wk} {S : Nat → Ld} {t : Nat} {T T' : Nat → CTk} {V V' : Nat → Sv} {s s' : QS} {h : Nat → Int} {r p : Nat → Nat → Bool}
theorem CTkOK.mk2 {t : Nat} {x : CTk} {y : Wk} (h : asW x y) (ok : y.ok) (h0 : 0 ≤ x.rel ∧ x.rel ≤ t) : CTkOK t x := by
  obtain ⟨a, b, c, d⟩ := h
  obtain ⟨o1, o2, o3, o4, o5⟩ := ok
  exact ⟨by omega, by omega, by omega, by omega, by omega, by omega, h0.1, h0.2⟩
theorem Gh.tkok (G : Gh n m W S t T V s h r p) {j : Nat} (hj : j < n) : CTkOK t (T j) := CTkOK.mk2 (G.ws j hj) (G.wok j hj) (G.tr j hj)
theorem Gh.linked (G : Gh n m W S t T V s h r p) : Linked n T s := fun j pr hp => by
  obtain ⟨h1, h2, h3⟩ := (G.link j pr).1 hp
  obtain ⟨l0, l1⟩ := (G.tk j h1).lim h2
  have hc := (G.ws j h1).2.1
  obtain ⟨o1, o2, o3, o4, o5⟩ := G.wok j h1
  exact ⟨h1, h2, l0, by omega⟩
theorem Gh.new {T : Nat → CTk} {V : Nat → Sv} (n1 : n ≤ 32) (m1 : m ≤ 16) (wok : ∀ j, j < n → (W j).ok) (sok : ∀ k, k < m → (S k).ok) (hT : ∀ j, j < n → asW (T j) (W j) ∧ (T j).began = false ∧ (T j).there = false ∧ (T j).rel = 0) (hV : ∀ k, k < m → asS (V k) (S k) ∧ (V k).work = 0 ∧ (V k).xs = [] ∧ (V k).N = 0) :
    Gh n m W S 0 T V QS.new (fun _ => -1) (fun _ _ => false) (fun _ _ => false) := by
  refine ⟨n1, m1, wok, sok, fun j hj => (hT j hj).1, fun k hk => (hV k hk).1, fun j hj => ?_, fun j hj => by rw [(hT j hj).2.2.2]; exact ⟨Int.le_refl _, Int.le_refl _⟩, fun k hk => ?_, fun k hk => ?_, QS.new_ok.more (by omega) (by omega), fun j a => ⟨fun hp => by simp [QS.new] at hp, fun ⟨h1, h2, _⟩ => by rw [(hT j h1).2.2.1] at h2; cases h2⟩⟩
  · obtain ⟨⟨a, b, c, d⟩, h2, h3, h4⟩ := hT j hj
    obtain ⟨o1, o2, o3, o4, o5⟩ := wok j hj
    have e : hit (fun _ => (-1 : Int)) (j : Int) = fun _ => false := by funext u; exact decide_eq_false (show ¬ (-1 : Int) = (j : Int) by omega)
    rw [e]
    refine ⟨by omega, by omega, fun _ _ => rfl, fun _ _ => rfl, (fun u hu => by cases hu), fun s => by rw [cntL_none fun _ _ _ => rfl]; omega, (fun hh => by rw [h3] at hh; cases hh), (fun hh => by rw [h3] at hh; cases hh), (fun hh => by rw [h3] at hh; cases hh), fun a _ _ => ?_⟩
    rw [if_neg (by rw [h3]; decide), cntL_none fun _ _ _ => rfl]; exact Nat.zero_le _
  · obtain ⟨_, _, h3, _⟩ := hV k hk
    have e : hit (fun _ => (-1 : Int)) (100 + (k : Int)) = fun _ => false := by funext u; exact decide_eq_false (show ¬ (-1 : Int) = 100 + (k : Int) by omega)
    rw [e, h3]
    exact SvG.new _ _
  · obtain ⟨⟨a, b⟩, h2, h3, h4⟩ := hV k hk
    obtain ⟨o1, o2, o3, o4⟩ := sok k hk
    exact ⟨⟨by omega, by omega, by omega, by omega⟩, by rw [h3]; show ((0 : Nat) : Int) ≤ _; omega, by rw [h4]; exact Int.le_refl _, by omega, by omega⟩
/-- Work is given. -/
theorem Gh.wake (G : Gh n m W S t T V s h r p) (hV : ∀ k, k < m → (V' k).B = (V k).B ∧ (V' k).P = (V k).P ∧ (V' k).xs = (V k).xs ∧ (V' k).N = (V k).N ∧ 0 ≤ (V' k).work ∧ (V' k).work ≤ 1048576) : Gh n m W S t T V' s h r p :=
  { G with
    ss := fun k hk => by obtain ⟨a, b, _⟩ := hV k hk; exact ⟨a.trans (G.ss k hk).1, b.trans (G.ss k hk).2⟩
    sv := fun k hk => by obtain ⟨a, b, c, _⟩ := hV k hk; rw [a, b, c]; exact G.sv k hk
    so := fun k hk => by
      obtain ⟨a, b, c, d, e, f⟩ := hV k hk
      have o := G.so k hk
      exact ⟨by rw [a, b]; exact o.s, by rw [a, c]; exact o.x, by rw [d]; exact o.n, e, f⟩ }
theorem Gh.wakeV (G : Gh n m W S t T V s h r p) (id x : Int) (hx : 0 ≤ x) : Gh n m W S t T (wakeV m V id x) s h r p := by
  refine G.wake fun k hk => ?_
  have o := G.so k hk
  have o0 := o.w0
  have o1 := o.w1
  unfold Proofs.Ytdemhhmceiaohaa.wakeV
  split
  · by_cases e : k = id.toNat
    · subst e
      rw [updK_self]
      exact ⟨rfl, rfl, rfl, rfl, by dsimp only; omega, by dsimp only; omega⟩
    · rw [updK_ne V _ e]
      exact ⟨rfl, rfl, rfl, rfl, o0, o1⟩
  · exact ⟨rfl, rfl, rfl, rfl, o0, o1⟩
/-- A job is released. -/
theorem Gh.release (G : Gh n m W S t T V s h r p) {j : Nat} (hj : j < n) (dem : Int) (hn : (T j).there = false) (hp : (T j).began = true → (T j).per ≤ (t : Int) - (T j).rel) :
    Gh n m W S t (updK T j (relT (T j) t dem)) V (s.come j (T j).prio.toNat) h (fun i => if i = j then also (r j) t true else r i) p := by
  have hno : s.pr j = none := by
    cases hc : s.pr j with
    | none => rfl
    | some a => have := ((G.link j a).1 hc).2.1; rw [hn] at this; cases this
  have hw := G.ws j hj
  have hprio : 0 ≤ (T j).prio ∧ (T j).prio ≤ 100 := by
    have := (G.wok j hj).1
    rw [hw.1]; exact this
  refine ⟨G.n1, G.m1, G.wok, G.sok, fun i hi => ?_, G.ss, fun i hi => ?_, fun i hi => ?_, G.sv, G.so, (G.q.come (m := 64) (by have := G.n1; omega) (by omega) hno (by omega)).low, fun i a => ?_⟩
  · by_cases e : i = j
    · subst e; rw [updK_self]; exact hw
    · rw [updK_ne T _ e]; exact G.ws i hi
  · by_cases e : i = j
    · subst e; rw [updK_self, if_pos rfl]; exact (G.tk i hi).release dem hn hp
    · rw [updK_ne T _ e, if_neg e]; exact G.tk i hi
  · by_cases e : i = j
    · subst e; rw [updK_self]; exact ⟨by show (0 : Int) ≤ t; omega, Int.le_refl _⟩
    · rw [updK_ne T _ e]; exact G.tr i hi
  · show (if i = j then some (T j).prio.toNat else s.pr i) = some a ↔ _
    by_cases e : i = j
    · subst e
      rw [if_pos rfl, updK_self]
      constructor
      · intro hh; injection hh with hh
        exact ⟨hj, rfl, by show (T i).prio = (a : Int); omega⟩
      · rintro ⟨_, _, hh⟩
        have hh : (T i).prio = (a : Int) := hh
        rw [hh]; rfl
    · rw [if_neg e, updK_ne T _ e]; exact G.link i a
theorem notBack_twice (t : Int) : ∀ xs : List Int, notBack t (notBack t xs) = notBack t xs
  | [] => rfl
  | x :: xs => by
    by_cases hx : x ≤ t
    · have e : notBack t (x :: xs) = notBack t xs := List.dropWhile_cons_of_pos (by simpa using hx)
      rw [e]; exact notBack_twice t xs
    · have e : notBack t (x :: xs) = x :: xs := List.dropWhile_cons_of_neg (by simpa using hx)
      rw [e, e]
theorem seenV_cases (V : Nat → Sv) (now : Int) (k j : Nat) : seenV V now k j = seenS (V j) now ∨ seenV V now k j = V j := by
  unfold seenV; split
  · exact Or.inl rfl
  · exact Or.inr rfl
/-- Looked at, not served. -/
theorem sv_pass {v v' : Sv} {f : Nat → Bool} {y : Ld} (hc : v' = seenS v t ∨ v' = v) (h : SvG t v.P v.B v.xs f) (ok : SvOK t v) (hs : asS v y) :
    asS v' y ∧ SvG (t + 1) v'.P v'.B v'.xs (also f t false) ∧ SvOK ((t + 1 : Nat) : Int) v' := by
  rcases hc with rfl | rfl
  · refine ⟨hs, h.seen.pass, ?_⟩
    have o := ok.seen
    exact ⟨o.s, o.x, by have := o.n; show (seenS v t).N ≤ ((t + 1 : Nat) : Int); omega, o.w0, o.w1⟩
  · exact ⟨hs, h.pass, ok.s, ok.x, by have := ok.n; show v'.N ≤ ((t + 1 : Nat) : Int); omega, ok.w0, ok.w1⟩
theorem sv_use {v v' : Sv} {f : Nat → Bool} {y : Ld} (hv : v' = serveS (seenS v t) t ∨ v' = serveS v t) (hcan : canS v t) (h : SvG t v.P v.B v.xs f) (ok : SvOK t v) (hs : asS v y) :
    asS v' y ∧ SvG (t + 1) v'.P v'.B v'.xs (also f t true) ∧ SvOK ((t + 1 : Nat) : Int) v' := by
  obtain ⟨hw, hl⟩ := hcan
  have hP : 1 ≤ v.P := by have := ok.s.1; have := ok.s.2.2.1; omega
  rcases hv with rfl | rfl
  · have e : notBack t (notBack t v.xs) = notBack t v.xs := notBack_twice _ _
    have k := h.seen.use hP (by rw [e]; exact hl)
    have o := ok.seen
    refine ⟨hs, k, o.s, useL_le o.x, by show (t : Int) ≤ ((t + 1 : Nat) : Int); omega, by show 0 ≤ v.work - 1; omega, by have := ok.w1; show v.work - 1 ≤ 1048576; omega⟩
  · have k := h.use hP hl
    refine ⟨hs, k, ok.s, useL_le ok.x, by show (t : Int) ≤ ((t + 1 : Nat) : Int); omega, by show 0 ≤ v.work - 1; omega, by have := ok.w1; show v.work - 1 ≤ 1048576; omega⟩
/-- A tick. -/
theorem Gh.tick (G : Gh n m W S t T V s h r p) {who : Int} {ld lc : List Nat} (hP : TickP n m T V t s who ld lc T' V' s') :
    Gh n m W S (t + 1) T' V' s' (putH h t who) r (putP T' p (t + 1)) := by
  have tkp : ∀ j, j < n → who ≠ (j : Int) → TkG (t + 1) (T j) (hit (putH h t who) (j : Int)) (r j) (also (p j) (t + 1) (T j).there) := fun j hj hne => by
    rw [hit_put, decide_eq_false hne]; exact (G.tk j hj).pass
  have trp : ∀ j, j < n → 0 ≤ (T j).rel ∧ (T j).rel ≤ ((t + 1 : Nat) : Int) := fun j hj => ⟨(G.tr j hj).1, by have := (G.tr j hj).2; omega⟩
  have svp : ∀ k, k < m → who ≠ 100 + (k : Int) → (V' k = seenS (V k) t ∨ V' k = V k) → asS (V' k) (S k) ∧ SvG (t + 1) (V' k).P (V' k).B (V' k).xs (hit (putH h t who) (100 + (k : Int))) ∧ SvOK ((t + 1 : Nat) : Int) (V' k) := fun k hk hne hc => by
    rw [hit_put, decide_eq_false hne]; exact sv_pass hc (G.sv k hk) (G.so k hk) (G.ss k hk)
  have n1 := G.n1
  rcases hP with ⟨k, hk, hcan, hno, rfl, rfl, rfl, rfl, rfl, hV⟩ | ⟨hno, hV, hrest⟩
  · have sva : ∀ i, i < m → asS (V' i) (S i) ∧ SvG (t + 1) (V' i).P (V' i).B (V' i).xs (hit (putH h t (100 + (k : Int))) (100 + (i : Int))) ∧ SvOK ((t + 1 : Nat) : Int) (V' i) := fun i hi => by
      by_cases e : i = k
      · subst e
        rw [hit_put, decide_eq_true rfl]
        refine sv_use ?_ hcan (G.sv i hi) (G.so i hi) (G.ss i hi)
        rw [hV, updK_self]
        rcases seenV_cases V t (i + 1) i with e | e
        · exact Or.inl (by rw [e])
        · exact Or.inr (by rw [e])
      · refine svp i hi (by omega) ?_
        rw [hV, updK_ne _ _ e]
        exact seenV_cases V t (k + 1) i
    exact ⟨n1, G.m1, G.wok, G.sok, G.ws, fun i hi => (sva i hi).1, fun j hj => tkp j hj (by omega), trp, fun i hi => (sva i hi).2.1, fun i hi => (sva i hi).2.2, G.q, G.link⟩
  · have hlt : who < 100 := by
      rcases hrest with ⟨x, l, _, h2, _, rfl, _⟩ | ⟨_, rfl, _⟩ <;> omega
    have sva : ∀ i, i < m → asS (V' i) (S i) ∧ SvG (t + 1) (V' i).P (V' i).B (V' i).xs (hit (putH h t who) (100 + (i : Int))) ∧ SvOK ((t + 1 : Nat) : Int) (V' i) := fun i hi => by
      refine svp i hi (by omega) ?_
      rw [hV]
      exact seenV_cases V t m i
    rcases hrest with ⟨x, l, hall, hx, hth, rfl, rfl, rfl, rfl, rfl⟩ | ⟨hall, rfl, rfl, rfl, rfl, rfl⟩
    · refine ⟨n1, G.m1, G.wok, G.sok, fun j hj => ?_, fun i hi => (sva i hi).1, fun j hj => ?_, fun j hj => ?_, fun i hi => (sva i hi).2.1, fun i hi => (sva i hi).2.2, ?_, fun j a => ?_⟩
      · by_cases e : j = x.1
        · rw [e, updK_self]; rw [e] at hj; exact G.ws x.1 hj
        · rw [updK_ne T _ e]; exact G.ws j hj
      · unfold putP
        by_cases e : j = x.1
        · rw [e, updK_self, hit_put, decide_eq_true rfl]; exact (G.tk x.1 hx).ran hth
        · rw [updK_ne T _ e]; exact tkp j hj (by omega)
      · by_cases e : j = x.1
        · rw [e, updK_self]; exact trp x.1 hx
        · rw [updK_ne T _ e]; exact trp j hj
      · split
        · exact G.q.go x.1
        · exact G.q
      · by_cases ho : overT (T x.1) = true
        · rw [if_pos ho]
          show (if j = x.1 then none else s.pr j) = some a ↔ _
          by_cases e : j = x.1
          · subst e
            rw [if_pos rfl, updK_self]
            constructor
            · intro hh; cases hh
            · rintro ⟨_, hh, _⟩
              have hh : ((T x.1).there && !(overT (T x.1))) = true := hh
              rw [ho] at hh; simp at hh
          · rw [if_neg e, updK_ne T _ e]; exact G.link j a
        · rw [if_neg ho]
          by_cases e : j = x.1
          · subst e
            rw [updK_self]
            have e2 : (runT (T x.1)).there = (T x.1).there := by
              show ((T x.1).there && !(overT (T x.1))) = _
              cases hc : overT (T x.1) with
              | true => exact absurd hc ho
              | false => simp
            rw [e2]; exact G.link x.1 a
          · rw [updK_ne T _ e]; exact G.link j a
    · exact ⟨n1, G.m1, G.wok, G.sok, G.ws, fun i hi => (sva i hi).1, fun j hj => tkp j hj (by omega), trp, fun i hi => (sva i hi).2.1, fun i hi => (sva i hi).2.2, G.q, G.link⟩
end
end
section
set_option linter.unusedVariables false
theorem sumN_split (g : Nat → Nat) (m : Nat) : ∀ n, sumN g (m + n) = sumN g m + sumN (fun j => g (m + j)) n
  | 0 => rfl
  | n + 1 => by
    show sumN g (m + n) + g (m + n) = sumN g m + (sumN (fun j => g (m + j)) n + g (m + n))
    rw [sumN_split g m n]; omega
/-- One of two kinds happens at each time. -/
theorem cntL_cover2 {F G : Nat → Nat → Bool} {m n a L : Nat} (h : ∀ t, a ≤ t → t < a + L → (∃ k, k < m ∧ F k t = true) ∨ ∃ j, j < n ∧ G j t = true) : L ≤ sumN (fun k => cntL (F k) a L) m + sumN (fun j => cntL (G j) a L) n := by
  have h1 := cntL_cover (F := fun q => if q < m then F q else G (q - m)) (k := m + n) (a := a) (n := L) fun t h1 h2 => by
    rcases h t h1 h2 with ⟨k, hk, e⟩ | ⟨j, hj, e⟩
    · exact ⟨k, by omega, by rw [if_pos hk]; exact e⟩
    · exact ⟨m + j, by omega, by rw [if_neg (by omega), show m + j - m = j by omega]; exact e⟩
  rw [sumN_split] at h1
  rw [sumN_like (g := fun q => cntL (if q < m then F q else G (q - m)) a L) (h := fun k => cntL (F k) a L) (k := m) fun k hk => by rw [if_pos hk]] at h1
  rw [sumN_like (g := fun j => cntL (if m + j < m then F (m + j) else G (m + j - m)) a L) (h := fun j => cntL (G j) a L) (k := n) fun j hj => by rw [if_neg (by omega), show m + j - m = j by omega]] at h1
  exact h1
theorem sumN_out {g : Nat → Nat} {l : Nat → Prop} [DecidablePred l] {i n : Nat} (hi : i < n) (hl : l i) : sumN (fun j => if l j then g j else 0) n = g i + sumN (fun j => if j ≠ i ∧ l j then g j else 0) n := by
  have h1 := sumN_add (fun j => if j = i then g i else 0) (fun j => if j ≠ i ∧ l j then g j else 0) n
  have h2 : sumN (fun j => if j = i then g i else 0) n = g i := by
    have := sumN_one (g := fun j => if j = i then g i else 0) hi fun k _ hne => if_neg hne
    rw [this]; exact if_pos rfl
  rw [h2] at h1
  rw [← h1]
  refine sumN_like fun j hj => ?_
  by_cases e : j = i
  · subst e; rw [if_pos hl, if_pos rfl, if_neg (by simp)]; omega
  · rw [if_neg e]
    by_cases e2 : l j
    · rw [if_pos e2, if_pos ⟨e, e2⟩]; omega
    · rw [if_neg e2, if_neg fun hh => e2 hh.2]
/-- What is wanted of a span. -/
def loadN (S : Nat → Ld) (m R : Nat) : Nat := sumN (fun k => upN R (S k).per.toNat * (S k).b.toNat) m
def lev (W : Nat → Wk) (i j : Nat) : Prop := (W j).prio ≤ (W i).prio
instance (W : Nat → Wk) (i j : Nat) : Decidable (lev W i j) := by unfold lev; infer_instance
def wantN (W : Nat → Wk) (S : Nat → Ld) (n m i R : Nat) : Nat := (W i).cost.toNat + loadN S m R + sumN (fun j => if j ≠ i ∧ lev W i j then upN R (W j).per.toNat * (W j).cost.toNat else 0) n
/-- Since a time at which nothing so urgent was there somebody so urgent, or a server, ran; it is less than R ago. -/
def Busy (n m : Nat) (W : Nat → Wk) (t : Nat) (h : Nat → Int) (p : Nat → Nat → Bool) (i R : Nat) : Prop :=
  ∃ t0, t0 ≤ t ∧ t < t0 + R ∧ (∀ j, j < n → lev W i j → p j t0 = false) ∧ ∀ u, t0 ≤ u → u < t → (∃ k, k < m ∧ h u = 100 + (k : Int)) ∨ ∃ j, j < n ∧ lev W i j ∧ h u = (j : Int)
section
variable {n m : Nat} {W : Nat → Wk} {S : Nat → Ld} {t : Nat} {T T' : Nat → CTk} {V V' : Nat → Sv} {s s' : QS} {h : Nat → Int} {r p : Nat → Nat → Bool}
theorem Busy.tick (G : Gh n m W S t T V s h r p) {who : Int} {ld lc : List Nat} (hP : TickP n m T V t s who ld lc T' V' s') {i R : Nat} (hi : i < n) (h1 : 1 ≤ R) (hd : (R : Int) ≤ (W i).dead) (hR : wantN W S n m i R = R)
    (B : Busy n m W t h p i R) : Busy n m W (t + 1) (putH h t who) (putP T' p (t + 1)) i R := by
  have G' := G.tick hP
  obtain ⟨t0, b1, b2, b3, b4⟩ := B
  by_cases hex : ∃ j, j < n ∧ lev W i j ∧ (T' j).there = true
  case neg =>
    refine ⟨t + 1, Nat.le_refl _, by omega, fun j hj hl => ?_, fun u hu hu2 => by omega⟩
    show also (p j) (t + 1) (T' j).there (t + 1) = false
    rw [also_self]
    cases hc : (T' j).there with
    | false => rfl
    | true => exact absurd ⟨j, hj, hl, hc⟩ hex
  obtain ⟨j0, hj0, hl0, hth0⟩ := hex
  have hold : (T j0).there = true := by
    rcases hP with ⟨k, hk, hcan, hno, rfl, rfl, rfl, rfl, rfl, hV⟩ | ⟨hno, hV, ⟨x, l, hall, hx, hth, rfl, rfl, rfl, rfl, rfl⟩ | ⟨hall, rfl, rfl, rfl, rfl, rfl⟩⟩
    · exact hth0
    · by_cases e : j0 = x.1
      · rw [e]; exact hth
      · rw [updK_ne T _ e] at hth0; exact hth0
    · exact hth0
  have hwho : (∃ k, k < m ∧ who = 100 + (k : Int)) ∨ ∃ j, j < n ∧ lev W i j ∧ who = (j : Int) := by
    have ws0 := (G.ws j0 hj0).1
    have wok0 := (G.wok j0 hj0).1
    have hp0 : s.pr j0 = some (T j0).prio.toNat := (G.link j0 _).2 ⟨hj0, hold, by omega⟩
    have hin : (j0, (T j0).prio.toNat) ∈ s.all := G.q.all_mem.2 hp0
    rcases hP with ⟨k, hk, hcan, hno, rfl, rfl, rfl, rfl, rfl, hV⟩ | ⟨hno, hV, ⟨x, l, hall, hx, hth, rfl, rfl, rfl, rfl, rfl⟩ | ⟨hall, rfl, rfl, rfl, rfl, rfl⟩⟩
    · exact Or.inl ⟨k, hk, rfl⟩
    · refine Or.inr ⟨x.1, hx, ?_, rfl⟩
      have hxp : s.pr x.1 = some x.2 := G.q.all_mem.1 (by rw [hall]; exact List.mem_cons_self)
      have hxq := ((G.link x.1 x.2).1 hxp).2.2
      have hle := flat_head (k := 101) (show flat s.lst 101 = x :: l from hall) _ hin
      have hws := (G.ws x.1 hx).1
      unfold lev at hl0 ⊢
      dsimp only at hle
      omega
    · rw [hall] at hin; cases hin
  have hb4 : ∀ u, t0 ≤ u → u < t + 1 → (∃ k, k < m ∧ putH h t who u = 100 + (k : Int)) ∨ ∃ j, j < n ∧ lev W i j ∧ putH h t who u = (j : Int) := fun u hu hu2 => by
    unfold putH
    by_cases e : u = t
    · rw [if_pos e]; exact hwho
    · rw [if_neg e]; exact b4 u hu (by omega)
  have hb3 : ∀ j, j < n → lev W i j → putP T' p (t + 1) j t0 = false := fun j hj hl => by
    show also (p j) (t + 1) (T' j).there t0 = false
    rw [also_ne (p j) _ (by omega)]; exact b3 j hj hl
  by_cases hlt : t + 1 < t0 + R
  · exact ⟨t0, by omega, hlt, hb3, hb4⟩
  exfalso
  have eR : t + 1 - t0 = R := by omega
  have hcov := cntL_cover2 (F := fun k => hit (putH h t who) (100 + (k : Int))) (G := fun j => if lev W i j then hit (putH h t who) (j : Int) else fun _ => false) (m := m) (n := n) (a := t0) (L := R) fun u h1 h2 => by
    rcases hb4 u h1 (by omega) with ⟨k, hk, e⟩ | ⟨j, hj, hl, e⟩
    · exact Or.inl ⟨k, hk, decide_eq_true e⟩
    · refine Or.inr ⟨j, hj, ?_⟩
      rw [if_pos hl]; exact decide_eq_true e
  have hs1 : sumN (fun k => cntL (hit (putH h t who) (100 + (k : Int))) t0 R) m ≤ loadN S m R := sumN_le fun k hk => by
    have a := (G'.sv k hk).most
    obtain ⟨e1, e2⟩ := G'.ss k hk
    obtain ⟨o1, o2, o3, o4⟩ := G'.sok k hk
    have := cntL_span (P := (V' k).P.toNat) (B := (V' k).B.toNat) (by omega) a t0 R
    rw [e1, e2] at this; exact this
  have key : ∀ j, j < n → lev W i j → cntL (hit (putH h t who) (j : Int)) t0 R + (if (T' j).there = true then ((T' j).cost - (T' j).ran).toNat else 0) ≤ upN R (W j).per.toNat * (W j).cost.toNat := fun j hj hl => by
    have a := (G'.tk j hj).load t0 (by omega) (hb3 j hj hl)
    rw [eR, show t + 1 + 1 - t0 = R + 1 by omega] at a
    have hr0 : r j (t0 + R) = false := (G.tk j hj).rst _ (by omega)
    have e1 : cntL (r j) t0 (R + 1) = cntL (r j) t0 R := by
      show cntL (r j) t0 R + (r j (t0 + R)).toNat = _
      rw [hr0]; rfl
    rw [e1] at a
    have b := cntL_span (P := (T' j).per.toNat) (B := 1) (by have := (G'.tk j hj).p1; omega) (G'.tk j hj).one t0 R
    rw [Nat.mul_one] at b
    obtain ⟨_, e2, e3, _⟩ := G'.ws j hj
    rw [e3] at b
    rw [e2] at a ⊢
    have c := Nat.mul_le_mul_left (W j).cost.toNat b
    rw [Nat.mul_comm (upN R (W j).per.toNat)]
    omega
  have hs2 : sumN (fun j => cntL (if lev W i j then hit (putH h t who) (j : Int) else fun _ => false) t0 R) n < sumN (fun j => if lev W i j then upN R (W j).per.toNat * (W j).cost.toNat else 0) n := by
    refine sumN_lt (fun j hj => ?_) ⟨j0, hj0, ?_⟩
    · by_cases hl : lev W i j
      · rw [if_pos hl, if_pos hl]
        have := key j hj hl; omega
      · rw [if_neg hl, if_neg hl, cntL_none fun _ _ _ => rfl]; exact Nat.le_refl _
    · rw [if_pos hl0, if_pos hl0]
      have a := key j0 hj0 hl0
      rw [if_pos hth0] at a
      have := ((G'.tk j0 hj0).lim hth0).2
      omega
  have hout := sumN_out (g := fun j => upN R (W j).per.toNat * (W j).cost.toNat) (l := lev W i) hi (show lev W i i from Int.le_refl _)
  
  obtain ⟨o1, o2, o3, o4, o5⟩ := G.wok i hi
  rw [upN_one (s := R) (p := (W i).per.toNat) h1 (by omega), Nat.one_mul] at hout
  unfold wantN at hR
  rw [hout] at hs2
  omega
/-- Nobody is late. -/
theorem Busy.intime (G : Gh n m W S t T V s h r p) {i R : Nat} (hi : i < n) (hd : (R : Int) ≤ (W i).dead) (B : Busy n m W t h p i R) (hth : (T i).there = true) : (t : Int) < (T i).unt := by
  obtain ⟨t0, b1, b2, b3, b4⟩ := B
  have hp0 := b3 i hi (Int.le_refl _)
  obtain ⟨r0, r1, r2⟩ := (G.tk i hi).rel hth
  have : ¬ (T i).rel < (t0 : Int) := fun hlt => by
    have := (G.tk i hi).pend hth t0 b1 hlt
    rw [hp0] at this; cases this
  have := (G.ws i hi).2.2.2
  omega
theorem misL_none (G : Gh n m W S t T V s h r p) {Rf : Nat → Nat} (hd : ∀ i, i < n → (Rf i : Int) ≤ (W i).dead) (B : ∀ i, i < n → Busy n m W t h p i (Rf i)) : misL T t n = [] := by
  unfold misL
  refine List.filter_eq_nil_iff.2 fun i hi hb => ?_
  have hi : i < n := by simpa using hi
  unfold misB at hb
  rw [Bool.and_eq_true] at hb
  have h1 := Busy.intime G hi (hd i hi) (B i hi) hb.1
  have h2 : (T i).unt = (t : Int) := beq_iff_eq.1 hb.2
  omega
theorem Busy.new {i R : Nat} (h1 : 1 ≤ R) : Busy n m W 0 (fun _ => -1) (fun _ _ => false) i R := ⟨0, Nat.le_refl _, by omega, fun _ _ _ => rfl, fun u _ hu => by omega⟩
end
end
end Go.Proofs.Ytdemhhmceiaohaa
