/- Layer 10: a ring, as numbers and descriptors; its places in memory. -/
import Derived.Test.YtboepnfekfhppaaDescP
import Derived.Test.YtboepnfekfhppaaGrid
import Derived.Test.YtboepnfekfhppaaCopy
import Derived.Test.YtboepnfekfhppaaFam
namespace Go.Proofs.Ytboepnfekfhppaa
open Go.RowKit
set_option linter.unusedVariables false
def dZ : Dsc := ⟨0, 0, 0, 0, 0, 0, false, false, 0⟩
def Dsc.inR (d : Dsc) : Dsc := ⟨d.op, d.req, d.slot, d.gen, d.frm, d.len, true, false, 0⟩
def Dsc.fin (d : Dsc) (s : Int) : Dsc := ⟨d.op, d.req, d.slot, d.gen, d.frm, d.len, false, true, s⟩
theorem inR_fits {d : Dsc} (h : d.fits) : d.inR.fits := by
  obtain ⟨h1, h2, h3, h4, h5, h6, h7⟩ := h
  exact ⟨h1, h2, h3, h4, h5, h6, by simp [Dsc.inR]⟩
def setD (D : Nat → Dsc) (k : Nat) (d : Dsc) : Nat → Dsc := fun j => if j = k then d else D j
/-- What a ring holds: how many were put, taken, reaped since the last reset, and what was put. -/
structure RSt where
  put : Nat
  taken : Nat
  reaped : Nat
  D : Nat → Dsc
def RSt.new : RSt := ⟨0, 0, 0, fun _ => dZ⟩
structure RSt.ok (n : Nat) (s : RSt) : Prop where
  r : s.reaped ≤ s.taken
  t : s.taken ≤ s.put
  p : s.put ≤ s.reaped + n
  m : s.put ≤ 1000000
  n0 : 1 ≤ n
  n1 : n ≤ 64
theorem RSt.new_ok {n : Nat} (h0 : 1 ≤ n) (h1 : n ≤ 64) : RSt.new.ok n := ⟨Nat.le_refl _, Nat.le_refl _, by show 0 ≤ 0 + n; omega, by show 0 ≤ 1000000; omega, h0, h1⟩
/-- Of a place: which number from r on lies there. -/
def noAt (n r i : Nat) : Nat := r + (i + n - r % n) % n
theorem mod_in {n a x : Nat} (h : x < n) : (n * a + x) % n = x := by rw [Nat.mul_add_mod]; exact Nat.mod_eq_of_lt h
theorem noAt_of {n r no : Nat} (h0 : r ≤ no) (h1 : no < r + n) : noAt n r (no % n) = no := by
  have hn : 0 < n := by omega
  have e := Nat.div_add_mod r n
  have hb := Nat.mod_lt r hn
  unfold noAt
  generalize r % n = b at *
  generalize r / n = a at *
  obtain ⟨q, rfl⟩ : ∃ q, no = r + q := ⟨no - r, by omega⟩
  subst e
  by_cases hc : b + q < n
  · have e1 : (n * a + b + q) % n = b + q := by rw [Nat.add_assoc]; exact mod_in hc
    rw [e1, show b + q + n - b = n * 1 + q by omega, mod_in (by omega)]
  · have e1 : (n * a + b + q) % n = b + q - n := by
      rw [show n * a + b + q = n * (a + 1) + (b + q - n) by rw [Nat.mul_add]; omega]; exact mod_in (by omega)
    rw [e1, show b + q - n + n - b = q by omega, Nat.mod_eq_of_lt (by omega)]
theorem noAt_is {n r i : Nat} (h : i < n) : noAt n r i % n = i ∧ r ≤ noAt n r i ∧ noAt n r i < r + n := by
  have hn : 0 < n := by omega
  have e := Nat.div_add_mod r n
  have hb := Nat.mod_lt r hn
  have hl := Nat.mod_lt (i + n - r % n) hn
  refine ⟨?_, by unfold noAt; omega, by unfold noAt; omega⟩
  unfold noAt
  generalize r % n = b at *
  generalize r / n = a at *
  subst e
  by_cases hc : b ≤ i
  · rw [show i + n - b = n * 1 + (i - b) by omega, mod_in (by omega), show n * a + b + (i - b) = n * a + i by omega, mod_in h]
  · rw [Nat.mod_eq_of_lt (show i + n - b < n by omega), show n * a + b + (i + n - b) = n * (a + 1) + i by rw [Nat.mul_add]; omega, mod_in h]
/-- What lies in a place. -/
def plc (n : Nat) (s : RSt) (i : Nat) : Value := if noAt n s.reaped i < s.put then .iface 36 (s.D (noAt n s.reaped i)).v else .nilIface
def plcs (n : Nat) (s : RSt) : List Value := (List.range n).map (plc n s)
theorem plcs_len (n : Nat) (s : RSt) : (plcs n s).length = n * 1 := by simp [plcs]
theorem plcs_get {n i : Nat} (s : RSt) (h : i < n) : (plcs n s)[i]? = some (plc n s i) := by simp [plcs, h]
theorem plcs_like {n : Nat} {s s' : RSt} (h : ∀ i, i < n → plc n s i = plc n s' i) : plcs n s = plcs n s' := List.map_congr_left fun i hi => h i (by simpa using hi)
theorem plcs_set {n k : Nat} {s s' : RSt} {u : Value} (hk : k < n) (h : ∀ i, i < n → plc n s' i = if i = k then u else plc n s i) : (plcs n s).set k u = plcs n s' := by
  apply List.ext_getElem?
  intro j
  by_cases hj : j < n
  · rw [plcs_get s' hj, h j hj]
    by_cases e : j = k
    · subst e; rw [List.getElem?_set_self (by rw [plcs_len]; omega), if_pos rfl]
    · rw [List.getElem?_set_ne (Ne.symm e), plcs_get s hj, if_neg e]
  · rw [List.getElem?_eq_none (by rw [List.length_set, plcs_len]; omega), List.getElem?_eq_none (by rw [plcs_len]; omega)]
theorem plc_at {n no : Nat} {s : RSt} (h : s.ok n) (h0 : s.reaped ≤ no) (h1 : no < s.put) : plc n s (no % n) = .iface 36 (s.D no).v := by
  have := h.p
  unfold plc
  rw [noAt_of h0 (by omega), if_pos h1]
theorem plc_no {n i : Nat} {s : RSt} (hi : i < n) (h : ∀ no, s.reaped ≤ no → no < s.put → no % n ≠ i) : plc n s i = .nilIface := by
  obtain ⟨h1, h2, h3⟩ := noAt_is (r := s.reaped) hi
  unfold plc
  rw [if_neg fun hc => h _ h2 hc h1]
theorem plcs_new (n : Nat) (z : RSt) (h : z.put ≤ z.reaped) : plcs n z = List.replicate n .nilIface := by
  apply List.ext_getElem?
  intro j
  by_cases hj : j < n
  · rw [plcs_get z hj, plc_no hj (fun no h1 h2 => by omega)]; simp [hj]
  · rw [List.getElem?_eq_none (by rw [plcs_len]; omega), List.getElem?_eq_none (by simp; omega)]
theorem made_rep (z : Value) (n : Nat) : (madeCells #[z] n).toList = List.replicate n z := by
  apply List.ext_getElem?
  intro j
  by_cases hj : j < n
  · simp [madeCells, hj, Nat.mod_one]
  · rw [List.getElem?_eq_none (by simp [madeCells]; omega), List.getElem?_eq_none (by simp; omega)]
/-! ### What each call tells and does -/
def PutP (n : Nat) (s : RSt) (d : Dsc) (a f : Int) (s' : RSt) : Prop :=
  (¬ d.inR.may ∧ a = 0 ∧ f = 1 ∧ s' = s) ∨ (d.inR.may ∧ s.put = s.reaped + n ∧ a = 0 ∧ f = 4 ∧ s' = s) ∨
  (d.inR.may ∧ s.put < s.reaped + n ∧ a = s.put ∧ f = 0 ∧ s' = ⟨s.put + 1, s.taken, s.reaped, setD s.D s.put d.inR⟩)
theorem putP_ex {n : Nat} {s : RSt} (h : s.ok n) (d : Dsc) : ∃ a f s', PutP n s d a f s' := by
  have := h.p
  by_cases h1 : d.inR.may
  · by_cases h2 : s.put = s.reaped + n
    · exact ⟨_, _, _, Or.inr (Or.inl ⟨h1, h2, rfl, rfl, rfl⟩)⟩
    · exact ⟨_, _, _, Or.inr (Or.inr ⟨h1, by omega, rfl, rfl, rfl⟩)⟩
  · exact ⟨_, _, _, Or.inl ⟨h1, rfl, rfl, rfl⟩⟩
def TakeP (s : RSt) (a : Int) (d : Dsc) (f : Int) (s' : RSt) : Prop :=
  (s.taken = s.put ∧ a = 0 ∧ d = dZ ∧ f = 5 ∧ s' = s) ∨ (s.taken < s.put ∧ a = s.taken ∧ d = s.D s.taken ∧ f = 0 ∧ s' = ⟨s.put, s.taken + 1, s.reaped, s.D⟩)
theorem takeP_ex {n : Nat} {s : RSt} (h : s.ok n) : ∃ a d f s', TakeP s a d f s' := by
  have := h.t
  by_cases h1 : s.taken = s.put
  · exact ⟨_, _, _, _, Or.inl ⟨h1, rfl, rfl, rfl, rfl⟩⟩
  · exact ⟨_, _, _, _, Or.inr ⟨by omega, rfl, rfl, rfl, rfl⟩⟩
def FinP (s : RSt) (no st : Int) (f : Int) (s' : RSt) : Prop :=
  ((st < 0 ∨ 255 < st) ∧ f = 1 ∧ s' = s) ∨ ((0 ≤ st ∧ st ≤ 255) ∧ (no < s.reaped ∨ (s.taken : Int) ≤ no ∨ (s.D no.toNat).dn = true) ∧ f = 12 ∧ s' = s) ∨
  ((0 ≤ st ∧ st ≤ 255) ∧ (s.reaped : Int) ≤ no ∧ no < s.taken ∧ (s.D no.toNat).dn = false ∧ f = 0 ∧ s' = ⟨s.put, s.taken, s.reaped, setD s.D no.toNat ((s.D no.toNat).fin st)⟩)
theorem finP_ex (s : RSt) (no st : Int) : ∃ f s', FinP s no st f s' := by
  by_cases h1 : st < 0 ∨ 255 < st
  · exact ⟨_, _, Or.inl ⟨h1, rfl, rfl⟩⟩
  · by_cases h2 : no < s.reaped ∨ (s.taken : Int) ≤ no ∨ (s.D no.toNat).dn = true
    · exact ⟨_, _, Or.inr (Or.inl ⟨by omega, h2, rfl, rfl⟩)⟩
    · refine ⟨_, _, Or.inr (Or.inr ⟨by omega, ?_, ?_, ?_, rfl, rfl⟩)⟩
      · exact Int.not_lt.1 fun h => h2 (Or.inl h)
      · exact Int.not_le.1 fun h => h2 (Or.inr (Or.inl h))
      · cases hd : (s.D no.toNat).dn with
        | false => rfl
        | true => exact absurd (Or.inr (Or.inr hd)) h2
def ReapP (s : RSt) (d : Dsc) (f : Int) (s' : RSt) : Prop :=
  (s.reaped = s.put ∧ d = dZ ∧ f = 5 ∧ s' = s) ∨ (s.reaped < s.put ∧ (s.D s.reaped).dn = false ∧ d = dZ ∧ f = 10 ∧ s' = s) ∨
  (s.reaped < s.put ∧ (s.D s.reaped).dn = true ∧ d = s.D s.reaped ∧ f = 0 ∧ s' = ⟨s.put, s.taken, s.reaped + 1, s.D⟩)
theorem reapP_ex {n : Nat} {s : RSt} (h : s.ok n) : ∃ d f s', ReapP s d f s' := by
  have := h.t
  have := h.r
  by_cases h1 : s.reaped = s.put
  · exact ⟨_, _, _, Or.inl ⟨h1, rfl, rfl, rfl⟩⟩
  · cases hd : (s.D s.reaped).dn with
    | false => exact ⟨_, _, _, Or.inr (Or.inl ⟨by omega, hd, rfl, rfl, rfl⟩)⟩
    | true => exact ⟨_, _, _, Or.inr (Or.inr ⟨by omega, hd, rfl, rfl, rfl⟩)⟩
def AtP (n : Nat) (s : RSt) (i : Int) (d : Dsc) (f : Int) : Prop :=
  (∃ no : Nat, s.reaped ≤ no ∧ no < s.put ∧ ((no % n : Nat) : Int) = i ∧ d = s.D no ∧ f = 0) ∨ ((∀ no : Nat, s.reaped ≤ no → no < s.put → ((no % n : Nat) : Int) ≠ i) ∧ d = dZ ∧ f = 6)
theorem atP_ex {n : Nat} {s : RSt} (h : s.ok n) (i : Int) : ∃ d f, AtP n s i d f := by
  have hn := h.n0
  by_cases hi : 0 ≤ i ∧ i < n
  · obtain ⟨h1, h2, h3⟩ := noAt_is (r := s.reaped) (show i.toNat < n by omega)
    by_cases hc : noAt n s.reaped i.toNat < s.put
    · exact ⟨_, _, Or.inl ⟨_, h2, hc, by omega, rfl, rfl⟩⟩
    · refine ⟨_, _, Or.inr ⟨fun no g1 g2 g3 => ?_, rfl, rfl⟩⟩
      have := noAt_of g1 (show no < s.reaped + n by have := h.p; omega)
      rw [show no % n = i.toNat by omega] at this
      omega
  · refine ⟨_, _, Or.inr ⟨fun no g1 g2 g3 => ?_, rfl, rfl⟩⟩
    have := Nat.mod_lt no (show 0 < n by omega)
    omega
/-! ### The state stays right -/
theorem PutP.ok {n : Nat} {s s' : RSt} {d : Dsc} {a f : Int} (h : PutP n s d a f s') (hs : s.ok n) (hm : s.put + 1 ≤ 1000000) : s'.ok n ∧ s'.put ≤ s.put + 1 := by
  obtain ⟨h1, h2, h3, h4, h5, h6⟩ := hs
  rcases h with ⟨_, _, _, rfl⟩ | ⟨_, _, _, _, rfl⟩ | ⟨_, _, _, _, rfl⟩
  · exact ⟨⟨h1, h2, h3, h4, h5, h6⟩, by omega⟩
  · exact ⟨⟨h1, h2, h3, h4, h5, h6⟩, by omega⟩
  · exact ⟨⟨h1, by show s.taken ≤ s.put + 1; omega, by show s.put + 1 ≤ s.reaped + n; omega, hm, h5, h6⟩, Nat.le_refl _⟩
theorem TakeP.ok {n : Nat} {s s' : RSt} {d : Dsc} {a f : Int} (h : TakeP s a d f s') (hs : s.ok n) : s'.ok n ∧ s'.put = s.put := by
  obtain ⟨h1, h2, h3, h4, h5, h6⟩ := hs
  rcases h with ⟨_, _, _, _, rfl⟩ | ⟨_, _, _, _, rfl⟩
  · exact ⟨⟨h1, h2, h3, h4, h5, h6⟩, rfl⟩
  · exact ⟨⟨by show s.reaped ≤ s.taken + 1; omega, by show s.taken + 1 ≤ s.put; omega, h3, h4, h5, h6⟩, rfl⟩
theorem FinP.ok {n : Nat} {s s' : RSt} {no st f : Int} (h : FinP s no st f s') (hs : s.ok n) : s'.ok n ∧ s'.put = s.put := by
  obtain ⟨h1, h2, h3, h4, h5, h6⟩ := hs
  rcases h with ⟨_, _, rfl⟩ | ⟨_, _, _, rfl⟩ | ⟨_, _, _, _, _, rfl⟩ <;> exact ⟨⟨h1, h2, h3, h4, h5, h6⟩, rfl⟩
/-- What is reaped was done, so it was taken. -/
def RSt.fine (s : RSt) : Prop := ∀ k, s.taken ≤ k → k < s.put → (s.D k).dn = false
theorem ReapP.ok {n : Nat} {s s' : RSt} {d : Dsc} {f : Int} (h : ReapP s d f s') (hs : s.ok n) (hf : s.fine) : s'.ok n ∧ s'.put = s.put := by
  obtain ⟨h1, h2, h3, h4, h5, h6⟩ := hs
  rcases h with ⟨_, _, _, rfl⟩ | ⟨_, _, _, _, rfl⟩ | ⟨g1, g2, _, _, rfl⟩
  · exact ⟨⟨h1, h2, h3, h4, h5, h6⟩, rfl⟩
  · exact ⟨⟨h1, h2, h3, h4, h5, h6⟩, rfl⟩
  · refine ⟨⟨?_, h2, by show s.put ≤ s.reaped + 1 + n; omega, h4, h5, h6⟩, rfl⟩
    show s.reaped + 1 ≤ s.taken
    rcases Nat.lt_or_ge s.reaped s.taken with hl | hl
    · exact hl
    · have := hf s.reaped hl g1
      rw [g2] at this; cases this
theorem PutP.fine {n : Nat} {s s' : RSt} {d : Dsc} {a f : Int} (h : PutP n s d a f s') (hs : s.fine) : s'.fine := by
  rcases h with ⟨_, _, _, rfl⟩ | ⟨_, _, _, _, rfl⟩ | ⟨_, _, _, _, rfl⟩
  · exact hs
  · exact hs
  · intro k h1 h2
    have h2 : k < s.put + 1 := h2
    show (setD s.D s.put d.inR k).dn = false
    unfold setD
    by_cases e : k = s.put
    · rw [if_pos e]; rfl
    · rw [if_neg e]; exact hs k h1 (by omega)
theorem TakeP.fine {s s' : RSt} {d : Dsc} {a f : Int} (h : TakeP s a d f s') (hs : s.fine) : s'.fine := by
  rcases h with ⟨_, _, _, _, rfl⟩ | ⟨_, _, _, _, rfl⟩
  · exact hs
  · intro k h1 h2
    have h1 : s.taken + 1 ≤ k := h1
    exact hs k (by omega) h2
theorem FinP.fine {s s' : RSt} {no st f : Int} (h : FinP s no st f s') (hs : s.fine) : s'.fine := by
  rcases h with ⟨_, _, rfl⟩ | ⟨_, _, _, rfl⟩ | ⟨_, _, g2, _, _, rfl⟩
  · exact hs
  · exact hs
  · intro k h1 h2
    have h1 : s.taken ≤ k := h1
    show (setD s.D no.toNat _ k).dn = false
    unfold setD
    rw [if_neg (by omega)]
    exact hs k h1 h2
theorem ReapP.fine {s s' : RSt} {d : Dsc} {f : Int} (h : ReapP s d f s') (hs : s.fine) : s'.fine := by
  rcases h with ⟨_, _, _, rfl⟩ | ⟨_, _, _, _, rfl⟩ | ⟨_, _, _, _, rfl⟩ <;> exact hs
theorem RSt.new_fine : RSt.new.fine := fun k h1 h2 => absurd h2 (by show ¬ k < 0; omega)
/-! ### The places -/
theorem put_plcs {n : Nat} {s : RSt} (h : s.ok n) (hl : s.put < s.reaped + n) (d : Dsc) : (plcs n s).set (s.put % n) (.iface 36 d.v) = plcs n ⟨s.put + 1, s.taken, s.reaped, setD s.D s.put d⟩ := by
  have hn := h.n0
  have hr := h.r
  have ht := h.t
  refine plcs_set (Nat.mod_lt _ (by omega)) fun i hi => ?_
  obtain ⟨h1, h2, h3⟩ := noAt_is (r := s.reaped) hi
  unfold plc
  dsimp only
  by_cases e : i = s.put % n
  · rw [if_pos e]
    have e2 := noAt_of (show s.reaped ≤ s.put by omega) hl
    rw [← e] at e2
    rw [e2, if_pos (by omega)]
    unfold setD; rw [if_pos rfl]
  · rw [if_neg e]
    have e2 : noAt n s.reaped i ≠ s.put := fun hc => e (by rw [← h1, hc])
    by_cases hc : noAt n s.reaped i < s.put
    · rw [if_pos hc, if_pos (by omega)]
      unfold setD; rw [if_neg e2]
    · rw [if_neg hc, if_neg (by omega)]
theorem fin_plcs {n no : Nat} {s : RSt} (h : s.ok n) (h0 : s.reaped ≤ no) (h1' : no < s.put) (d : Dsc) : (plcs n s).set (no % n) (.iface 36 d.v) = plcs n ⟨s.put, s.taken, s.reaped, setD s.D no d⟩ := by
  have hn := h.n0
  have hp := h.p
  refine plcs_set (Nat.mod_lt _ (by omega)) fun i hi => ?_
  obtain ⟨h1, h2, h3⟩ := noAt_is (r := s.reaped) hi
  unfold plc
  dsimp only
  by_cases e : i = no % n
  · rw [if_pos e]
    have e2 := noAt_of h0 (show no < s.reaped + n by omega)
    rw [← e] at e2
    rw [e2, if_pos h1']
    unfold setD; rw [if_pos rfl]
  · rw [if_neg e]
    have e2 : noAt n s.reaped i ≠ no := fun hc => e (by rw [← h1, hc])
    unfold setD; rw [if_neg e2]
theorem reap_plcs {n : Nat} {s : RSt} (h : s.ok n) (hl : s.reaped < s.put) : (plcs n s).set (s.reaped % n) .nilIface = plcs n ⟨s.put, s.taken, s.reaped + 1, s.D⟩ := by
  have hn := h.n0
  have hp := h.p
  refine plcs_set (Nat.mod_lt _ (by omega)) fun i hi => ?_
  obtain ⟨h1, h2, h3⟩ := noAt_is (r := s.reaped) hi
  by_cases e : i = s.reaped % n
  · rw [if_pos e]
    refine plc_no hi fun no g1 g2 g3 => ?_
    have g1 : s.reaped + 1 ≤ no := g1
    have g2 : no < s.put := g2
    have a1 := noAt_of (n := n) (r := s.reaped) (no := no) (by omega) (by omega)
    have a2 := noAt_of (n := n) (r := s.reaped) (no := s.reaped) (by omega) (by omega)
    rw [g3, e] at a1
    omega
  · rw [if_neg e]
    have e2 : noAt n s.reaped i ≠ s.reaped := fun hc => e (by rw [← h1, hc])
    have e3 := noAt_of (n := n) (r := s.reaped + 1) (no := noAt n s.reaped i) (by omega) (by omega)
    rw [h1] at e3
    unfold plc
    dsimp only
    rw [e3]
/-- A ring in memory. -/
def RingL (p g n : Nat) (s : RSt) : List Res := [BlkR p 62 #[.slice (some ⟨g, 0, none⟩) n n, .int .i64 s.put, .int .i64 s.taken, .int .i64 s.reaped], LisR 20 1 (.slice (some ⟨g, 0, none⟩) n n) n (plcs n s)]
def RingR (p n : Nat) (s : RSt) : Res := fun w S => ∃ g, Star (RingL p g n s) w S
theorem RingR.ok (p n : Nat) (s : RSt) : Ok (RingR p n s) :=
  ⟨fun ⟨g, h⟩ b hb => (Star.ok _).lt h b hb, fun ⟨g, h⟩ hk => ⟨g, (Star.ok _).frame h hk⟩⟩
end Go.Proofs.Ytboepnfekfhppaa
