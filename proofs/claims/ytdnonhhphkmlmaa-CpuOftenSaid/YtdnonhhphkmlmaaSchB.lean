/- Layer 17: what was done up to now, of a server, of a task. Plain theorems. -/
import Derived.Test.YtdnonhhphkmlmaaSchA
import Derived.Test.YtdnonhhphkmlmaaCpuP
namespace Go.Proofs.Ytdnonhhphkmlmaa
open Go.RowKit
set_option linter.unusedVariables false
theorem countP_notBack {t τ : Int} (h : t ≤ τ) : ∀ xs : List Int, (notBack t xs).countP (fun x => decide (τ < x)) = xs.countP (fun x => decide (τ < x))
  | [] => rfl
  | x :: xs => by
    unfold notBack
    by_cases hx : x ≤ t
    · rw [List.dropWhile_cons_of_pos (by simpa using hx), List.countP_cons_of_neg (by simp; omega)]
      exact countP_notBack h xs
    · rw [List.dropWhile_cons_of_neg (by simpa using hx)]
/-- When a server was served: what comes back, and when. -/
structure SvG (t : Nat) (P B : Int) (xs : List Int) (f : Nat → Bool) : Prop where
  stop : ∀ u, t ≤ u → f u = false
  back : ∀ τ s : Nat, t ≤ τ → (τ : Int) < (s : Int) + P → cntL f s (t - s) ≤ xs.countP (fun x => decide ((τ : Int) < x))
  most : ∀ s, cntL f s P.toNat ≤ B.toNat
theorem SvG.new (P B : Int) : SvG 0 P B [] (fun _ => false) :=
  ⟨fun _ _ => rfl, fun τ s _ _ => by rw [cntL_none fun _ _ _ => rfl]; exact Nat.zero_le _, fun s => by rw [cntL_none fun _ _ _ => rfl]; exact Nat.zero_le _⟩
theorem SvG.seen {t : Nat} {P B : Int} {xs : List Int} {f : Nat → Bool} (h : SvG t P B xs f) : SvG t P B (notBack t xs) f :=
  ⟨h.stop, fun τ s h1 h2 => by rw [countP_notBack (by omega)]; exact h.back τ s h1 h2, h.most⟩
theorem also_false {f : Nat → Bool} {t : Nat} (h : f t = false) : also f t false = f := by
  funext u; unfold also; split
  · rename_i e; rw [e, h]
  · rfl
theorem cntL_step {f : Nat → Bool} {t s : Nat} (h : s ≤ t) : cntL f s (t + 1 - s) = cntL f s (t - s) + (f t).toNat := by
  rw [show t + 1 - s = (t - s) + 1 by omega]
  show _ + (f (s + (t - s))).toNat = _
  rw [show s + (t - s) = t by omega]
theorem cntL_gone {f : Nat → Bool} {t s : Nat} (h : t ≤ s) : cntL f s (t - s) = 0 := by
  rw [show t - s = 0 by omega]; rfl
theorem SvG.pass {t : Nat} {P B : Int} {xs : List Int} {f : Nat → Bool} (h : SvG t P B xs f) : SvG (t + 1) P B xs (also f t false) := by
  rw [also_false (h.stop t (Nat.le_refl _))]
  refine ⟨fun u hu => h.stop u (by omega), fun τ s h1 h2 => ?_, h.most⟩
  by_cases hs : s ≤ t
  · rw [cntL_step hs, h.stop t (Nat.le_refl _)]
    exact h.back τ s (by omega) h2
  · rw [cntL_gone (by omega)]; exact Nat.zero_le _
theorem SvG.use {t : Nat} {P B : Int} {xs : List Int} {f : Nat → Bool} (h : SvG t P B xs f) (hP : 1 ≤ P) (hl : ((notBack t xs).length : Int) < B) : SvG (t + 1) P B (useL B P t xs) (also f t true) := by
  have hu : useL B P t xs = notBack t xs ++ [(t : Int) + P] := if_pos hl
  rw [hu]
  refine ⟨fun u hu => ?_, fun τ s h1 h2 => ?_, fun s => ?_⟩
  · rw [also_ne f _ (by omega)]; exact h.stop u (by omega)
  · rw [List.countP_append, countP_notBack (by omega)]
    by_cases hs : s ≤ t
    · rw [cntL_step hs, also_self, cntL_also_out _ (Or.inr (by omega))]
      have := h.back τ s (by omega) h2
      have e : [(t : Int) + P].countP (fun x => decide ((τ : Int) < x)) = 1 := by
        rw [List.countP_cons_of_pos (by simp; omega)]; rfl
      rw [e]
      exact Nat.add_le_add_right this 1
    · rw [cntL_gone (by omega)]; exact Nat.zero_le _
  · by_cases hs : s ≤ t ∧ t < s + P.toNat
    · rw [cntL_also true hs.1 hs.2 (h.stop t (Nat.le_refl _)), cntL_stop h.stop hs.1 (by omega)]
      have h1 := h.back t s (Nat.le_refl _) (by omega)
      rw [← countP_notBack (Int.le_refl (t : Int))] at h1
      have h2 := List.countP_le_length (p := fun x => decide ((t : Int) < x)) (l := notBack t xs)
      show _ + 1 ≤ _
      omega
    · rw [cntL_also_out _ (by omega)]; exact h.most s
/-- When a task's jobs were released (r), ran (f), and were there as the time came (p). -/
structure TkG (t : Nat) (x : CTk) (f r p : Nat → Bool) : Prop where
  c1 : 1 ≤ x.cost
  p1 : 1 ≤ x.per
  stop : ∀ u, t ≤ u → f u = false
  rst : ∀ u, t < u → r u = false
  rr : ∀ u : Nat, r u = true → x.began = true ∧ (u : Int) ≤ x.rel
  one : ∀ s, cntL r s x.per.toNat ≤ 1
  rel : x.there = true → 0 ≤ x.rel ∧ x.rel ≤ t ∧ x.unt = x.rel + x.dead
  lim : x.there = true → 0 ≤ x.ran ∧ x.ran < x.cost
  pend : x.there = true → ∀ u : Nat, u ≤ t → x.rel < u → p u = true
  load : ∀ a, a ≤ t → p a = false → cntL f a (t - a) + (if x.there = true then (x.cost - x.ran).toNat else 0) ≤ x.cost.toNat * cntL r a (t + 1 - a)
theorem TkG.release {t : Nat} {x : CTk} {f r p : Nat → Bool} (h : TkG t x f r p) (dem : Int) (hn : x.there = false) (hp : x.began = true → x.per ≤ (t : Int) - x.rel) : TkG t (relT x t dem) f (also r t true) p := by
  have hr : r t = false := by
    cases hc : r t with
    | false => rfl
    | true => have := h.rr t hc; have := hp this.1; have := h.p1; omega
  refine ⟨h.c1, h.p1, h.stop, fun u hu => by rw [also_ne r _ (by omega)]; exact h.rst u hu, fun u hu => ?_, fun s => ?_, fun _ => ⟨by show (0 : Int) ≤ t; omega, Int.le_refl _, rfl⟩, fun _ => ⟨Int.le_refl _, by show (0 : Int) < x.cost; have := h.c1; omega⟩, fun _ u h1 h2 => ?_, fun a h1 h2 => ?_⟩
  · refine ⟨rfl, ?_⟩
    show (u : Int) ≤ t
    by_cases e : u = t
    · omega
    · rw [also_ne r _ e] at hu
      have := h.rr u hu
      have := hp this.1; have := h.p1; omega
  · show cntL (also r t true) s x.per.toNat ≤ 1
    by_cases hs : s ≤ t ∧ t < s + x.per.toNat
    · rw [cntL_also true hs.1 hs.2 hr, cntL_none fun u h1 _ => ?_]
      · exact Nat.le_refl _
      · cases hc : r u with
        | false => rfl
        | true => have := h.rr u hc; have := hp this.1; omega
    · rw [cntL_also_out _ (by omega)]; exact h.one s
  · exact absurd h2 (by show ¬ ((t : Int) < u); omega)
  · have h3 := h.load a h1 h2
    rw [if_neg (by rw [hn]; decide), Nat.add_zero] at h3
    rw [if_pos (show (relT x t dem).there = true from rfl)]
    show cntL f a (t - a) + (x.cost - 0).toNat ≤ x.cost.toNat * cntL (also r t true) a (t + 1 - a)
    rw [cntL_also true h1 (by omega) hr, Nat.mul_add, Int.sub_zero]
    show _ ≤ _ + x.cost.toNat * 1
    omega
theorem TkG.pass {t : Nat} {x : CTk} {f r p : Nat → Bool} (h : TkG t x f r p) : TkG (t + 1) x (also f t false) r (also p (t + 1) x.there) := by
  rw [also_false (h.stop t (Nat.le_refl _))]
  refine ⟨h.c1, h.p1, fun u hu => h.stop u (by omega), fun u hu => h.rst u (by omega), h.rr, h.one, fun hx => ⟨(h.rel hx).1, by have := (h.rel hx).2.1; omega, (h.rel hx).2.2⟩, h.lim, fun hx u h1 h2 => ?_, fun a h1 h2 => ?_⟩
  · by_cases e : u = t + 1
    · rw [e, also_self, hx]
    · rw [also_ne p _ e]; exact h.pend hx u (by omega) h2
  · by_cases e : a = t + 1
    · subst e
      rw [also_self] at h2
      rw [cntL_gone (Nat.le_refl _), if_neg (by rw [h2]; decide)]; exact Nat.zero_le _
    · rw [also_ne p _ e] at h2
      rw [cntL_step (show a ≤ t by omega), h.stop t (Nat.le_refl _), cntL_step (show a ≤ t + 1 by omega), h.rst (t + 1) (by omega)]
      exact h.load a (by omega) h2
theorem TkG.ran {t : Nat} {x : CTk} {f r p : Nat → Bool} (h : TkG t x f r p) (hx : x.there = true) : TkG (t + 1) (runT x) (also f t true) r (also p (t + 1) (runT x).there) := by
  obtain ⟨l0, l1⟩ := h.lim hx
  have hth : (runT x).there = true → x.ran + 1 ≠ x.cost := fun hh e => by
    unfold runT overT at hh
    dsimp only at hh
    rw [e] at hh; simp at hh
  refine ⟨h.c1, h.p1, fun u hu => by rw [also_ne f _ (by omega)]; exact h.stop u (by omega), fun u hu => h.rst u (by omega), h.rr, h.one, fun _ => ⟨(h.rel hx).1, by have := (h.rel hx).2.1; show x.rel ≤ ((t + 1 : Nat) : Int); omega, (h.rel hx).2.2⟩, fun hh => ⟨by show 0 ≤ x.ran + 1; omega, by show x.ran + 1 < x.cost; have := hth hh; omega⟩, fun hh u h1 h2 => ?_, fun a h1 h2 => ?_⟩
  · by_cases e : u = t + 1
    · rw [e, also_self, hh]
    · rw [also_ne p _ e]; exact h.pend hx u (by omega) h2
  · by_cases e : a = t + 1
    · subst e
      rw [also_self] at h2
      rw [cntL_gone (Nat.le_refl _), if_neg (by rw [h2]; decide)]; exact Nat.zero_le _
    · rw [also_ne p _ e] at h2
      rw [cntL_step (show a ≤ t by omega), also_self, cntL_also_out _ (Or.inr (by omega)), cntL_step (show a ≤ t + 1 by omega), h.rst (t + 1) (by omega)]
      have h3 := h.load a (by omega) h2
      rw [if_pos hx] at h3
      show cntL f a (t - a) + 1 + (if (runT x).there = true then (x.cost - (x.ran + 1)).toNat else 0) ≤ x.cost.toNat * cntL r a (t + 1 - a)
      split <;> omega
/-- The first of all is of the most urgent ones. -/
theorem flat_head {f : Nat → List Nat} {x : Nat × Nat} {t : List (Nat × Nat)} : ∀ {k : Nat}, flat f k = x :: t → ∀ y ∈ flat f k, x.2 ≤ y.2
  | 0, h, _, _ => by simp [flat] at h
  | k + 1, h, y, hy => by
    simp only [flat] at h hy
    cases hc : flat f k with
    | nil =>
      rw [hc, List.nil_append] at h hy
      have hx : x ∈ (f k).map fun i => (i, k) := by rw [h]; exact List.mem_cons_self
      rw [List.mem_map] at hx hy
      obtain ⟨_, _, rfl⟩ := hx
      obtain ⟨_, _, rfl⟩ := hy
      exact Nat.le_refl _
    | cons z l =>
      rw [hc] at h
      injection h with h1 h2
      subst h1
      have hz : z ∈ flat f k := by rw [hc]; exact List.mem_cons_self
      rcases List.mem_append.1 hy with hy | hy
      · exact flat_head hc y hy
      · rw [List.mem_map] at hy
        obtain ⟨_, _, rfl⟩ := hy
        have := (flat_mem.1 hz).1
        show z.2 ≤ k; omega
end Go.Proofs.Ytdnonhhphkmlmaa
