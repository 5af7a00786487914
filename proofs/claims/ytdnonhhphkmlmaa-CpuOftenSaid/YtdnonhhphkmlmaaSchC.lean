/- Layer 17: a processor, and what it did up to now. Plain theorems. -/
import Derived.Test.YtdnonhhphkmlmaaSchB
import Derived.Test.YtdnonhhphkmlmaaCpuQ
namespace Go.Proofs.Ytdnonhhphkmlmaa
open Go.RowKit
set_option linter.unusedVariables false
/-- When that one ran. -/
def hit (h : Nat → Int) (x : Int) : Nat → Bool := fun u => decide (h u = x)
def putH (h : Nat → Int) (t : Nat) (x : Int) : Nat → Int := fun u => if u = t then x else h u
theorem hit_put (h : Nat → Int) (t : Nat) (x y : Int) : hit (putH h t x) y = also (hit h y) t (decide (x = y)) := by
  funext u; unfold hit putH also; split <;> rfl
def putP (T : Nat → CTk) (p : Nat → Nat → Bool) (t : Nat) : Nat → Nat → Bool := fun j => also (p j) t (T j).there
/-- A task, and a load, as handed in. -/
def asW (x : CTk) (y : Wk) : Prop := x.prio = y.prio ∧ x.cost = y.cost ∧ x.per = y.per ∧ x.dead = y.dead
def asS (x : Sv) (y : Ld) : Prop := x.B = y.b ∧ x.P = y.per
structure Gh (n m : Nat) (W : Nat → Wk) (S : Nat → Ld) (t : Nat) (T : Nat → CTk) (V : Nat → Sv) (s : QS) (h : Nat → Int) (r p : Nat → Nat → Bool) : Prop where
  n1 : n ≤ 32
  m1 : m ≤ 16
  wok : ∀ j, j < n → (W j).ok
  sok : ∀ k, k < m → (S k).ok
  ws : ∀ j, j < n → asW (T j) (W j)
  ss : ∀ k, k < m → asS (V k) (S k)
  tk : ∀ j, j < n → TkG t (T j) (hit h (j : Int)) (r j) (p j)
  tr : ∀ j, j < n → 0 ≤ (T j).rel ∧ (T j).rel ≤ t
  sv : ∀ k, k < m → SvG t (V k).P (V k).B (V k).xs (hit h (100 + (k : Int)))
  so : ∀ k, k < m → SvOK t (V k)
  q : s.ok 64
  link : ∀ j a, s.pr j = some a ↔ j < n ∧ (T j).there = true ∧ (T j).prio = (a : Int)
section
variable {n m : Nat} {W : Nat → Wk} {S : Nat → Ld} {t : Nat} {T T' : Nat → CTk} {V V' : Nat → Sv} {s s' : QS} {h : Nat → Int} {r p : Nat → Nat → Bool}
theorem CTkOK.mk2 {t : Nat} {x : CTk} {y : Wk} (h : asW x y) (ok : y.ok) (h0 : 0 ≤ x.rel ∧ x.rel ≤ t) : CTkOK t x := by
  obtain ⟨a, b, c, d⟩ := h
  obtain ⟨o1, o2, o3, o4, o5⟩ := ok
  exact ⟨by omega, by omega, by omega, by omega, by omega, by omega, h0.1, h0.2⟩
theorem Gh.tkok (G : Gh n m W S t T V s h r p) {j : Nat} (hj : j < n) : CTkOK t (T j) := CTkOK.mk2 (G.ws j hj) (G.wok j hj) (G.tr j hj)
theorem Gh.linked (G : Gh n m W S t T V s h r p) : Linked n T s := fun j pr hp => by
  obtain ⟨h1, h2, h3⟩ := (G.link j pr).1 hp
  obtain ⟨l0, l1⟩ := (G.tk j h1).lim h2
  have hc := (G.ws j h1).2.1
  obtain ⟨o1, o2, o3, o4, o5⟩ := G.wok j h1
  exact ⟨h1, h2, l0, by omega⟩
theorem Gh.new {T : Nat → CTk} {V : Nat → Sv} (n1 : n ≤ 32) (m1 : m ≤ 16) (wok : ∀ j, j < n → (W j).ok) (sok : ∀ k, k < m → (S k).ok) (hT : ∀ j, j < n → asW (T j) (W j) ∧ (T j).began = false ∧ (T j).there = false ∧ (T j).rel = 0) (hV : ∀ k, k < m → asS (V k) (S k) ∧ (V k).work = 0 ∧ (V k).xs = [] ∧ (V k).N = 0) :
    Gh n m W S 0 T V QS.new (fun _ => -1) (fun _ _ => false) (fun _ _ => false) := by
  refine ⟨n1, m1, wok, sok, fun j hj => (hT j hj).1, fun k hk => (hV k hk).1, fun j hj => ?_, fun j hj => by rw [(hT j hj).2.2.2]; exact ⟨Int.le_refl _, Int.le_refl _⟩, fun k hk => ?_, fun k hk => ?_, QS.new_ok.more (by omega) (by omega), fun j a => ⟨fun hp => by simp [QS.new] at hp, fun ⟨h1, h2, _⟩ => by rw [(hT j h1).2.2.1] at h2; cases h2⟩⟩
  · obtain ⟨⟨a, b, c, d⟩, h2, h3, h4⟩ := hT j hj
    obtain ⟨o1, o2, o3, o4, o5⟩ := wok j hj
    have e : hit (fun _ => (-1 : Int)) (j : Int) = fun _ => false := by funext u; exact decide_eq_false (show ¬ (-1 : Int) = (j : Int) by omega)
    rw [e]
    refine ⟨by omega, by omega, fun _ _ => rfl, fun _ _ => rfl, (fun u hu => by cases hu), fun s => by rw [cntL_none fun _ _ _ => rfl]; omega, (fun hh => by rw [h3] at hh; cases hh), (fun hh => by rw [h3] at hh; cases hh), (fun hh => by rw [h3] at hh; cases hh), fun a _ _ => ?_⟩
    rw [if_neg (by rw [h3]; decide), cntL_none fun _ _ _ => rfl]; exact Nat.zero_le _
  · obtain ⟨_, _, h3, _⟩ := hV k hk
    have e : hit (fun _ => (-1 : Int)) (100 + (k : Int)) = fun _ => false := by funext u; exact decide_eq_false (show ¬ (-1 : Int) = 100 + (k : Int) by omega)
    rw [e, h3]
    exact SvG.new _ _
  · obtain ⟨⟨a, b⟩, h2, h3, h4⟩ := hV k hk
    obtain ⟨o1, o2, o3, o4⟩ := sok k hk
    exact ⟨⟨by omega, by omega, by omega, by omega⟩, by rw [h3]; show ((0 : Nat) : Int) ≤ _; omega, by rw [h4]; exact Int.le_refl _, by omega, by omega⟩
/-- Work is given. -/
theorem Gh.wake (G : Gh n m W S t T V s h r p) (hV : ∀ k, k < m → (V' k).B = (V k).B ∧ (V' k).P = (V k).P ∧ (V' k).xs = (V k).xs ∧ (V' k).N = (V k).N ∧ 0 ≤ (V' k).work ∧ (V' k).work ≤ 1048576) : Gh n m W S t T V' s h r p :=
  { G with
    ss := fun k hk => by obtain ⟨a, b, _⟩ := hV k hk; exact ⟨a.trans (G.ss k hk).1, b.trans (G.ss k hk).2⟩
    sv := fun k hk => by obtain ⟨a, b, c, _⟩ := hV k hk; rw [a, b, c]; exact G.sv k hk
    so := fun k hk => by
      obtain ⟨a, b, c, d, e, f⟩ := hV k hk
      have o := G.so k hk
      exact ⟨by rw [a, b]; exact o.s, by rw [a, c]; exact o.x, by rw [d]; exact o.n, e, f⟩ }
theorem Gh.wakeV (G : Gh n m W S t T V s h r p) (id x : Int) (hx : 0 ≤ x) : Gh n m W S t T (wakeV m V id x) s h r p := by
  refine G.wake fun k hk => ?_
  have o := G.so k hk
  have o0 := o.w0
  have o1 := o.w1
  unfold Proofs.Ytdnonhhphkmlmaa.wakeV
  split
  · by_cases e : k = id.toNat
    · subst e
      rw [updK_self]
      exact ⟨rfl, rfl, rfl, rfl, by dsimp only; omega, by dsimp only; omega⟩
    · rw [updK_ne V _ e]
      exact ⟨rfl, rfl, rfl, rfl, o0, o1⟩
  · exact ⟨rfl, rfl, rfl, rfl, o0, o1⟩
/-- A job is released. -/
theorem Gh.release (G : Gh n m W S t T V s h r p) {j : Nat} (hj : j < n) (dem : Int) (hn : (T j).there = false) (hp : (T j).began = true → (T j).per ≤ (t : Int) - (T j).rel) :
    Gh n m W S t (updK T j (relT (T j) t dem)) V (s.come j (T j).prio.toNat) h (fun i => if i = j then also (r j) t true else r i) p := by
  have hno : s.pr j = none := by
    cases hc : s.pr j with
    | none => rfl
    | some a => have := ((G.link j a).1 hc).2.1; rw [hn] at this; cases this
  have hw := G.ws j hj
  have hprio : 0 ≤ (T j).prio ∧ (T j).prio ≤ 100 := by
    have := (G.wok j hj).1
    rw [hw.1]; exact this
  refine ⟨G.n1, G.m1, G.wok, G.sok, fun i hi => ?_, G.ss, fun i hi => ?_, fun i hi => ?_, G.sv, G.so, (G.q.come (m := 64) (by have := G.n1; omega) (by omega) hno (by omega)).low, fun i a => ?_⟩
  · by_cases e : i = j
    · subst e; rw [updK_self]; exact hw
    · rw [updK_ne T _ e]; exact G.ws i hi
  · by_cases e : i = j
    · subst e; rw [updK_self, if_pos rfl]; exact (G.tk i hi).release dem hn hp
    · rw [updK_ne T _ e, if_neg e]; exact G.tk i hi
  · by_cases e : i = j
    · subst e; rw [updK_self]; exact ⟨by show (0 : Int) ≤ t; omega, Int.le_refl _⟩
    · rw [updK_ne T _ e]; exact G.tr i hi
  · show (if i = j then some (T j).prio.toNat else s.pr i) = some a ↔ _
    by_cases e : i = j
    · subst e
      rw [if_pos rfl, updK_self]
      constructor
      · intro hh; injection hh with hh
        exact ⟨hj, rfl, by show (T i).prio = (a : Int); omega⟩
      · rintro ⟨_, _, hh⟩
        have hh : (T i).prio = (a : Int) := hh
        rw [hh]; rfl
    · rw [if_neg e, updK_ne T _ e]; exact G.link i a
theorem notBack_twice (t : Int) : ∀ xs : List Int, notBack t (notBack t xs) = notBack t xs
  | [] => rfl
  | x :: xs => by
    by_cases hx : x ≤ t
    · have e : notBack t (x :: xs) = notBack t xs := List.dropWhile_cons_of_pos (by simpa using hx)
      rw [e]; exact notBack_twice t xs
    · have e : notBack t (x :: xs) = x :: xs := List.dropWhile_cons_of_neg (by simpa using hx)
      rw [e, e]
theorem seenV_cases (V : Nat → Sv) (now : Int) (k j : Nat) : seenV V now k j = seenS (V j) now ∨ seenV V now k j = V j := by
  unfold seenV; split
  · exact Or.inl rfl
  · exact Or.inr rfl
/-- Looked at, not served. -/
theorem sv_pass {v v' : Sv} {f : Nat → Bool} {y : Ld} (hc : v' = seenS v t ∨ v' = v) (h : SvG t v.P v.B v.xs f) (ok : SvOK t v) (hs : asS v y) :
    asS v' y ∧ SvG (t + 1) v'.P v'.B v'.xs (also f t false) ∧ SvOK ((t + 1 : Nat) : Int) v' := by
  rcases hc with rfl | rfl
  · refine ⟨hs, h.seen.pass, ?_⟩
    have o := ok.seen
    exact ⟨o.s, o.x, by have := o.n; show (seenS v t).N ≤ ((t + 1 : Nat) : Int); omega, o.w0, o.w1⟩
  · exact ⟨hs, h.pass, ok.s, ok.x, by have := ok.n; show v'.N ≤ ((t + 1 : Nat) : Int); omega, ok.w0, ok.w1⟩
theorem sv_use {v v' : Sv} {f : Nat → Bool} {y : Ld} (hv : v' = serveS (seenS v t) t ∨ v' = serveS v t) (hcan : canS v t) (h : SvG t v.P v.B v.xs f) (ok : SvOK t v) (hs : asS v y) :
    asS v' y ∧ SvG (t + 1) v'.P v'.B v'.xs (also f t true) ∧ SvOK ((t + 1 : Nat) : Int) v' := by
  obtain ⟨hw, hl⟩ := hcan
  have hP : 1 ≤ v.P := by have := ok.s.1; have := ok.s.2.2.1; omega
  rcases hv with rfl | rfl
  · have e : notBack t (notBack t v.xs) = notBack t v.xs := notBack_twice _ _
    have k := h.seen.use hP (by rw [e]; exact hl)
    have o := ok.seen
    refine ⟨hs, k, o.s, useL_le o.x, by show (t : Int) ≤ ((t + 1 : Nat) : Int); omega, by show 0 ≤ v.work - 1; omega, by have := ok.w1; show v.work - 1 ≤ 1048576; omega⟩
  · have k := h.use hP hl
    refine ⟨hs, k, ok.s, useL_le ok.x, by show (t : Int) ≤ ((t + 1 : Nat) : Int); omega, by show 0 ≤ v.work - 1; omega, by have := ok.w1; show v.work - 1 ≤ 1048576; omega⟩
/-- A tick. -/
theorem Gh.tick (G : Gh n m W S t T V s h r p) {who : Int} {ld lc : List Nat} (hP : TickP n m T V t s who ld lc T' V' s') :
    Gh n m W S (t + 1) T' V' s' (putH h t who) r (putP T' p (t + 1)) := by
  have tkp : ∀ j, j < n → who ≠ (j : Int) → TkG (t + 1) (T j) (hit (putH h t who) (j : Int)) (r j) (also (p j) (t + 1) (T j).there) := fun j hj hne => by
    rw [hit_put, decide_eq_false hne]; exact (G.tk j hj).pass
  have trp : ∀ j, j < n → 0 ≤ (T j).rel ∧ (T j).rel ≤ ((t + 1 : Nat) : Int) := fun j hj => ⟨(G.tr j hj).1, by have := (G.tr j hj).2; omega⟩
  have svp : ∀ k, k < m → who ≠ 100 + (k : Int) → (V' k = seenS (V k) t ∨ V' k = V k) → asS (V' k) (S k) ∧ SvG (t + 1) (V' k).P (V' k).B (V' k).xs (hit (putH h t who) (100 + (k : Int))) ∧ SvOK ((t + 1 : Nat) : Int) (V' k) := fun k hk hne hc => by
    rw [hit_put, decide_eq_false hne]; exact sv_pass hc (G.sv k hk) (G.so k hk) (G.ss k hk)
  have n1 := G.n1
  rcases hP with ⟨k, hk, hcan, hno, rfl, rfl, rfl, rfl, rfl, hV⟩ | ⟨hno, hV, hrest⟩
  · have sva : ∀ i, i < m → asS (V' i) (S i) ∧ SvG (t + 1) (V' i).P (V' i).B (V' i).xs (hit (putH h t (100 + (k : Int))) (100 + (i : Int))) ∧ SvOK ((t + 1 : Nat) : Int) (V' i) := fun i hi => by
      by_cases e : i = k
      · subst e
        rw [hit_put, decide_eq_true rfl]
        refine sv_use ?_ hcan (G.sv i hi) (G.so i hi) (G.ss i hi)
        rw [hV, updK_self]
        rcases seenV_cases V t (i + 1) i with e | e
        · exact Or.inl (by rw [e])
        · exact Or.inr (by rw [e])
      · refine svp i hi (by omega) ?_
        rw [hV, updK_ne _ _ e]
        exact seenV_cases V t (k + 1) i
    exact ⟨n1, G.m1, G.wok, G.sok, G.ws, fun i hi => (sva i hi).1, fun j hj => tkp j hj (by omega), trp, fun i hi => (sva i hi).2.1, fun i hi => (sva i hi).2.2, G.q, G.link⟩
  · have hlt : who < 100 := by
      rcases hrest with ⟨x, l, _, h2, _, rfl, _⟩ | ⟨_, rfl, _⟩ <;> omega
    have sva : ∀ i, i < m → asS (V' i) (S i) ∧ SvG (t + 1) (V' i).P (V' i).B (V' i).xs (hit (putH h t who) (100 + (i : Int))) ∧ SvOK ((t + 1 : Nat) : Int) (V' i) := fun i hi => by
      refine svp i hi (by omega) ?_
      rw [hV]
      exact seenV_cases V t m i
    rcases hrest with ⟨x, l, hall, hx, hth, rfl, rfl, rfl, rfl, rfl⟩ | ⟨hall, rfl, rfl, rfl, rfl, rfl⟩
    · refine ⟨n1, G.m1, G.wok, G.sok, fun j hj => ?_, fun i hi => (sva i hi).1, fun j hj => ?_, fun j hj => ?_, fun i hi => (sva i hi).2.1, fun i hi => (sva i hi).2.2, ?_, fun j a => ?_⟩
      · by_cases e : j = x.1
        · rw [e, updK_self]; rw [e] at hj; exact G.ws x.1 hj
        · rw [updK_ne T _ e]; exact G.ws j hj
      · unfold putP
        by_cases e : j = x.1
        · rw [e, updK_self, hit_put, decide_eq_true rfl]; exact (G.tk x.1 hx).ran hth
        · rw [updK_ne T _ e]; exact tkp j hj (by omega)
      · by_cases e : j = x.1
        · rw [e, updK_self]; exact trp x.1 hx
        · rw [updK_ne T _ e]; exact trp j hj
      · split
        · exact G.q.go x.1
        · exact G.q
      · by_cases ho : overT (T x.1) = true
        · rw [if_pos ho]
          show (if j = x.1 then none else s.pr j) = some a ↔ _
          by_cases e : j = x.1
          · subst e
            rw [if_pos rfl, updK_self]
            constructor
            · intro hh; cases hh
            · rintro ⟨_, hh, _⟩
              have hh : ((T x.1).there && !(overT (T x.1))) = true := hh
              rw [ho] at hh; simp at hh
          · rw [if_neg e, updK_ne T _ e]; exact G.link j a
        · rw [if_neg ho]
          by_cases e : j = x.1
          · subst e
            rw [updK_self]
            have e2 : (runT (T x.1)).there = (T x.1).there := by
              show ((T x.1).there && !(overT (T x.1))) = _
              cases hc : overT (T x.1) with
              | true => exact absurd hc ho
              | false => simp
            rw [e2]; exact G.link x.1 a
          · rw [updK_ne T _ e]; exact G.link j a
    · exact ⟨n1, G.m1, G.wok, G.sok, G.ws, fun i hi => (sva i hi).1, fun j hj => tkp j hj (by omega), trp, fun i hi => (sva i hi).2.1, fun i hi => (sva i hi).2.2, G.q, G.link⟩
end
end Go.Proofs.Ytdnonhhphkmlmaa
