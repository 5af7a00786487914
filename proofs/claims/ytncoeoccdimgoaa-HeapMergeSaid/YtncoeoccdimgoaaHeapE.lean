/- Layer 3: ahead and behind, step by step. -/
import Derived.Test.YtncoeoccdimgoaaHeapD
namespace Go.Proofs.Ytncoeoccdimgoaa
open Go.RowKit
set_option linter.unusedVariables false
set_option maxRecDepth 100000
set_option maxHeartbeats 1000000
theorem sw_same (a : Nat → Mem) (i : Nat) : sw a i i = a := funext fun x => by
  by_cases e : x = i
  · subst e; rw [sw_l]
  · rw [sw_ne a e e]
/-- Where a step ahead leads. -/
def AheadP (a : Nat → Mem) (i q : Nat) : Prop := (q = i ∧ (i = 0 ∨ ¬ hlt (a i) (a (par i)))) ∨ (0 < i ∧ q = par i ∧ hlt (a i) (a (par i)))
/-- Where a step behind leads. -/
def BehindP (a : Nat → Mem) (k i f : Nat) : Prop := (f = i ∧ ∀ x, 0 < x → x < k → par x = i → ¬ hlt (a x) (a i)) ∨ (0 < f ∧ f < k ∧ par f = i ∧ hlt (a f) (a i) ∧ ∀ x, 0 < x → x < k → par x = i → ¬ hlt (a x) (a f))
section
variable {w0 w : World} {S S0 : Nat → Prop} {N L : List Res} {h b off c pb n k : Nat} {a : Nat → Mem} {pl : Nat → Int}
theorem ahead_c (s : HSR h b off c pb n k a w S) {i : Nat} (hi : i < k) (hk : k ≤ n) (hn : n ≤ 1000) {q : Nat} (hq : AheadP a i q) :
    Calls Try.prog 28 #[.pointer (some ⟨h, 0, none⟩), .int .i64 (i : Nat)] w fun e w' => e = .returned (.int .i64 (q : Nat)) ∧ ∃ S', HSR h b off c pb n k (sw a i q) w' S' ∧ Did S S' w w' := by
  have s0 : St w S w [HSR h b off c pb n k a] := St.start (Star.one (HSR.ok h b off c pb n k a) s)
  by_cases h0 : i = 0
  · subst h0
    obtain rfl : q = 0 := by
      rcases hq with ⟨h, _⟩ | ⟨h, _⟩
      · exact h
      · omega
    rw [sw_same]
    have S0' := Lib.hid s0
    clear s s0 hq
    go_enter Try.func28, Try.ntmps28
    go_wp2_with fail
    go_ret
    exact ⟨rfl, S0'.out.fin fun S' h => star_one h⟩
  · have hpl := par_lt (show 0 < i by omega)
    have hlc := less_o s0 0 rfl hi (show par i < k by omega) _ rfl
    have z0 : ((i : Int) == 0) = false := beq_eq_false_iff_ne.2 (by omega)
    have z1 : ((i : Int) - 1) / 2 = ((par i : Nat) : Int) := by unfold par; omega
    have LC := Lib.hid hlc
    have i1 : 1 ≤ (i : Int) := by omega
    have AP := Lib.hid hq
    clear hlc hq s s0 h0
    by_cases hl : hlt (a i) (a (par i))
    · obtain rfl : q = par i := by
        rcases AP.out with ⟨h, h2⟩ | ⟨_, h, _⟩
        · rcases h2 with h2 | h2
          · omega
          · exact absurd hl h2
        · exact h
      rw [decide_eq_true hl] at LC
      clear hl AP
      generalize hp : par i = p at *
      clear hp
      go_enter Try.func28, Try.ntmps28
      go_wp2_with fail
      refine LC.out.mono ?_
      rintro e w1 ⟨rfl, s1⟩
      have S1 := Lib.hid s1
      clear s1 LC
      go_wp2_with fail
      refine (swap_o S1.out 0 rfl hi (by omega) hn).mono ?_
      rintro e w2 ⟨rfl, s2⟩
      have S2 := Lib.hid s2
      clear s2 S1
      go_wp2_with fail
      go_ret
      exact ⟨rfl, S2.out.fin fun S' h => star_one h⟩
    · obtain rfl : i = q := by
        rcases AP.out with ⟨h, h2⟩ | ⟨_, _, h⟩
        · exact h.symm
        · exact absurd h hl
      rw [decide_eq_false hl] at LC
      rw [sw_same]
      clear hl AP
      generalize hp : par i = p at *
      clear hp
      go_enter Try.func28, Try.ntmps28
      go_wp2_with fail
      refine LC.out.mono ?_
      rintro e w1 ⟨rfl, s1⟩
      have S1 := Lib.hid s1
      clear s1 LC
      go_wp2_with fail
      go_ret
      exact ⟨rfl, S1.out.fin fun S' h => star_one h⟩
/-- The first of a place, and those behind it that were seen. -/
structure Seen (a : Nat → Mem) (k i d f : Nat) : Prop where
  lo : 2 * i + 1 ≤ d
  hi : d ≤ 2 * i + 3
  hf : f = i ∨ (2 * i + 1 ≤ f ∧ f < d ∧ f < k ∧ hlt (a f) (a i))
  hm : ∀ x, 2 * i + 1 ≤ x → x < d → x < k → ¬ hlt (a x) (a f)
  hi' : ¬ hlt (a i) (a f)
theorem Seen.begin (a : Nat → Mem) (k i : Nat) : Seen a k i (2 * i + 1) i := ⟨by omega, by omega, Or.inl rfl, fun x h1 h2 => by omega, hlt_irr _⟩
theorem Seen.done {a : Nat → Mem} {k i d f : Nat} (h : Seen a k i d f) (hd : 2 * i + 3 ≤ d ∨ k ≤ d) : BehindP a k i f := by
  have hx : ∀ x, 0 < x → x < k → par x = i → ¬ hlt (a x) (a f) := fun x h0 hk hp => h.hm x (by unfold par at hp; omega) (by have := h.hi; unfold par at hp; omega) hk
  rcases h.hf with h1 | ⟨h1, h2, h3, h4⟩
  · subst h1; exact Or.inl ⟨rfl, hx⟩
  · exact Or.inr ⟨by omega, h3, by have := h.hi; unfold par; omega, h4, hx⟩
theorem Seen.less {a : Nat → Mem} {k i d f : Nat} (h : Seen a k i d f) (h1 : d ≤ 2 * i + 2) (h2 : d < k) (hl : hlt (a d) (a f)) : Seen a k i (d + 1) d := by
  have h4 : hlt (a d) (a i) := by
    have := h.hi'
    unfold hlt at *; omega
  refine ⟨by have := h.lo; omega, by omega, Or.inr ⟨h.lo, by omega, h2, h4⟩, fun x a1 a2 a3 => ?_, hlt_asym h4⟩
  by_cases e : x = d
  · subst e; exact hlt_irr _
  · exact hlt_trans (hlt_asym hl) (h.hm x a1 (by omega) a3)
theorem Seen.more {a : Nat → Mem} {k i d f : Nat} (h : Seen a k i d f) (h1 : d ≤ 2 * i + 2) (hl : ¬ hlt (a d) (a f)) : Seen a k i (d + 1) f := by
  refine ⟨by have := h.lo; omega, by omega, ?_, fun x a1 a2 a3 => ?_, h.hi'⟩
  · rcases h.hf with h | ⟨a1, a2, a3, a4⟩
    · exact Or.inl h
    · exact Or.inr ⟨a1, by omega, a3, a4⟩
  · by_cases e : x = d
    · subst e; exact hl
    · exact h.hm x a1 (by omega) a3
theorem heap_len (H : St w0 S0 w L) (q : Nat) (hq : L[q]? = some (HSR h b off c pb n k a)) : w.cell? ⟨h, 0, none⟩ = some (.slice (some ⟨b, off, none⟩) k c) := by
  obtain ⟨T, pl, _, hs⟩ := H.get q hq
  have s1 : St w T w (HL h b off c pb n k a pl ++ []) := St.start (by rw [List.append_nil]; exact hs)
  exact (heap_h s1).1
theorem behind_c (s : HSR h b off c pb n k a w S) {i : Nat} (hi : i < k) (hk : k ≤ n) (hn : n ≤ 1000) :
    Calls Try.prog 29 #[.pointer (some ⟨h, 0, none⟩), .int .i64 (i : Nat)] w fun e w' => ∃ f, (e = .returned (.int .i64 (f : Nat)) ∧ BehindP a k i f) ∧ ∃ S', HSR h b off c pb n k (sw a i f) w' S' ∧ Did S S' w w' := by
  have s0 : St w S w [HSR h b off c pb n k a] := St.start (Star.one (HSR.ok h b off c pb n k a) s)
  have c0 := heap_len s0 0 rfl
  have S0' := Lib.hid s0
  clear s s0
  go_enter Try.func29, Try.ntmps29
  go_wp2_with fail
  go_loopw [5, 6] (fun f d wr => ∃ (fn dn : Nat), f = .int .i64 (fn : Int) ∧ d = .int .i64 (dn : Int) ∧ Seen a k i dn fn ∧ St w S wr [HSR h b off c pb n k a]) (fun _ d _ => 2 * i + 3 - (intOf d).toNat)
  case atStart => exact ⟨i, 2 * i + 1, rfl, by go_num, Seen.begin a k i, S0'.out⟩
  case round =>
  obtain ⟨fn, dn, rfl, rfl, hs, sr⟩ := hrel
  have c1 := heap_len sr 0 rfl
  have hlo := hs.lo
  have hhi := hs.hi
  have hfk : fn < k := by
    rcases hs.hf with h | ⟨_, _, h, _⟩
    · omega
    · exact h
  have HSN := Lib.hid hs
  have SR := Lib.hid sr
  clear hs sr c0 S0'
  by_cases hd : dn ≤ 2 * i + 2
  · have d1 : decide ((dn : Int) ≤ 2 * (i : Int) + 2) = true := decide_eq_true (by omega)
    by_cases hdk : dn < k
    · have d2 : decide ((dn : Int) < (k : Int)) = true := decide_eq_true (by omega)
      have d2' : decide (dn < k) = true := decide_eq_true hdk
      by_cases hl : hlt (a dn) (a fn)
      · have LC := Lib.hid (less_o SR.out 0 rfl hdk hfk true (decide_eq_true hl).symm)
        have HN := Lib.hid (HSN.out.less hd hdk hl)
        clear hl HSN SR
        go_wp2_with fail
        refine LC.out.mono ?_
        rintro e w1 ⟨rfl, s1⟩
        have S1 := Lib.hid s1
        clear s1 LC
        go_wp2_with fail
        go_roundw
        case rel => exact ⟨dn, dn + 1, rfl, by go_num, HN.out, S1.out⟩
        case measure => simp [intOf]; omega
      · have LC := Lib.hid (less_o SR.out 0 rfl hdk hfk false (decide_eq_false hl).symm)
        have HN := Lib.hid (HSN.out.more hd hl)
        clear hl HSN SR
        go_wp2_with fail
        refine LC.out.mono ?_
        rintro e w1 ⟨rfl, s1⟩
        have S1 := Lib.hid s1
        clear s1 LC
        go_wp2_with fail
        go_roundw
        case rel => exact ⟨fn, dn + 1, rfl, by go_num, HN.out, S1.out⟩
        case measure => simp [intOf]; omega
    · have d2 : decide ((dn : Int) < (k : Int)) = false := decide_eq_false (by omega)
      have d2' : decide (dn < k) = false := decide_eq_false hdk
      have HB := Lib.hid (HSN.out.done (Or.inr (by omega)))
      clear HSN
      by_cases he : fn = i
      · subst he
        have z : ((fn : Int) != (fn : Int)) = false := by simp
        go_wp2_with fail
        go_ret
        exact ⟨fn, ⟨rfl, HB.out⟩, by rw [sw_same]; exact SR.out.fin fun S' h => star_one h⟩
      · have z : ((fn : Int) != (i : Int)) = true := by simp; omega
        go_wp2_with fail
        refine (swap_o SR.out 0 rfl hi hfk hn).mono ?_
        rintro e w1 ⟨rfl, s1⟩
        have S1 := Lib.hid s1
        clear s1 SR
        go_wp2_with fail
        go_ret
        exact ⟨fn, ⟨rfl, HB.out⟩, S1.out.fin fun S' h => star_one h⟩
  · have d1 : decide ((dn : Int) ≤ 2 * (i : Int) + 2) = false := decide_eq_false (by omega)
    have HB := Lib.hid (HSN.out.done (Or.inl (by omega)))
    clear HSN
    by_cases he : fn = i
    · subst he
      have z : ((fn : Int) != (fn : Int)) = false := by simp
      go_wp2_with fail
      go_ret
      exact ⟨fn, ⟨rfl, HB.out⟩, by rw [sw_same]; exact SR.out.fin fun S' h => star_one h⟩
    · have z : ((fn : Int) != (i : Int)) = true := by simp; omega
      go_wp2_with fail
      refine (swap_o SR.out 0 rfl hi hfk hn).mono ?_
      rintro e w1 ⟨rfl, s1⟩
      have S1 := Lib.hid s1
      clear s1 SR
      go_wp2_with fail
      go_ret
      exact ⟨fn, ⟨rfl, HB.out⟩, S1.out.fin fun S' h => star_one h⟩
end
end Go.Proofs.Ytncoeoccdimgoaa
