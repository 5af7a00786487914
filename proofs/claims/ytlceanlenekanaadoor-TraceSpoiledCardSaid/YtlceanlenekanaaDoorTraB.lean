/- Layer 25, plain: how the document reads a text: mark by mark. Nothing of one law. -/
import Derived.Test.YtlceanlenekanaaDoorTraA
namespace Go.Proofs.YtlceanlenekanaaDoor
set_option linter.unusedVariables false
/-- The number that stands ahead, and what is left. -/
def numR (l : List UInt8) : Option Nat × List UInt8 := if mayN (l.takeWhile isDg) = true then (some (valB (l.takeWhile isDg)), l.dropWhile isDg) else (none, l)
theorem numR_len (l : List UInt8) : (numR l).2.length ≤ l.length := by
  unfold numR
  split
  · have := congrArg List.length (List.takeWhile_append_dropWhile (p := isDg) (l := l))
    rw [List.length_append] at this
    show (l.dropWhile isDg).length ≤ _
    omega
  · exact Nat.le_refl _
/-- Not a digit ahead. -/
def NoDg (l : List UInt8) : Prop := ∀ b ∈ l.head?, isDg b = false
theorem NoDg.nil : NoDg [] := fun b hb => by cases hb
theorem NoDg.cons {b : UInt8} {l : List UInt8} (h : isDg b = false) : NoDg (b :: l) := fun c hc => by cases hc; exact h
theorem numR_digs {x : Int} (h0 : 0 ≤ x) (h1 : x ≤ 2147483647) {r : List UInt8} (hr : NoDg r) : numR (digs x.toNat ++ r) = (some x.toNat, r) := by
  have e1 : r.takeWhile isDg = [] := by
    cases r with
    | nil => rfl
    | cons b r => rw [List.takeWhile_cons, hr b rfl]; rfl
  have e2 : r.dropWhile isDg = r := by
    cases r with
    | nil => rfl
    | cons b r => rw [List.dropWhile_cons, hr b rfl]; rfl
  unfold numR
  rw [List.takeWhile_append_of_pos (digs_all _), e1, List.append_nil, if_pos (by rw [mayN_digs]; exact decide_eq_true (by omega)), digs_val, List.dropWhile_append_of_pos (digs_all _), e2]
def rfL : Nat → List UInt8 → Tk → Option Tk
  | _, [], t => some t
  | 0, _ :: _, _ => none
  | k + 1, c :: r, t => match (numR r).1 with
    | none => none
    | some n =>
      if c = 43 then rfL k (numR r).2 { t with dn := t.dn ++ [(n : Int)] } else if c = 47 then rfL k (numR r).2 { t with ct := t.ct ++ [(n : Int)] }
      else if c = 33 then rfL k (numR r).2 { t with ms := t.ms ++ [(n : Int)] }
      else if c = 61 then match (numR r).2 with
        | [] => none
        | d :: r3 => match (numR r3).1 with
          | none => none
          | some y => rfL k (numR r3).2 { t with ft := t.ft ++ [((n : Int), (if d = 100 then 1 else 2), (y : Int))] }
      else none
theorem rfL_enough : ∀ (k j : Nat) (s : List UInt8) (t : Tk), s.length ≤ k → s.length ≤ j → rfL k s t = rfL j s t
  | k, j, [], t, _, _ => by rw [rfL, rfL]
  | 0, _, c :: r, t, h, _ => by rw [List.length_cons] at h; omega
  | _ + 1, 0, c :: r, t, _, h => by rw [List.length_cons] at h; omega
  | k + 1, j + 1, c :: r, t, hk, hj => by
    rw [List.length_cons] at hk hj
    have hl := numR_len r
    have ih := fun (s : List UInt8) (t : Tk) (h : s.length ≤ r.length) => rfL_enough k j s t (by omega) (by omega)
    rw [rfL, rfL]
    cases (numR r).1 with
    | none => rfl
    | some n =>
      dsimp only
      rw [ih _ _ hl, ih _ _ hl, ih _ _ hl]
      split
      · rfl
      split
      · rfl
      split
      · rfl
      split
      · cases e : (numR r).2 with
        | nil => rfl
        | cons d r3 =>
          dsimp only
          have hl3 := numR_len r3
          rw [e, List.length_cons] at hl
          cases (numR r3).1 with
          | none => rfl
          | some y => exact ih _ _ (by omega)
      · rfl
def rfA (s : List UInt8) (t : Tk) : Option Tk := rfL s.length s t
theorem rfA_nil (t : Tk) : rfA [] t = some t := by unfold rfA; rw [rfL]
theorem rfA_none {c : UInt8} {r : List UInt8} (t : Tk) (h : (numR r).1 = none) : rfA (c :: r) t = none := by
  unfold rfA
  rw [List.length_cons, rfL, h]
theorem rfA_some {c : UInt8} {r : List UInt8} (t : Tk) {n : Nat} (h : (numR r).1 = some n) : rfA (c :: r) t =
    if c = 43 then rfA (numR r).2 { t with dn := t.dn ++ [(n : Int)] } else if c = 47 then rfA (numR r).2 { t with ct := t.ct ++ [(n : Int)] }
      else if c = 33 then rfA (numR r).2 { t with ms := t.ms ++ [(n : Int)] }
      else if c = 61 then match (numR r).2 with
        | [] => none
        | d :: r3 => match (numR r3).1 with
          | none => none
          | some y => rfA (numR r3).2 { t with ft := t.ft ++ [((n : Int), (if d = 100 then 1 else 2), (y : Int))] }
      else none := by
  have hl := numR_len r
  have ih := fun (s : List UInt8) (t : Tk) (h : s.length ≤ r.length) => rfL_enough r.length s.length s t h (Nat.le_refl _)
  unfold rfA
  rw [List.length_cons, rfL, h]
  dsimp only
  rw [ih _ _ hl, ih _ _ hl, ih _ _ hl]
  split
  · rfl
  split
  · rfl
  split
  · rfl
  split
  · cases e : (numR r).2 with
    | nil => rfl
    | cons d r3 =>
      dsimp only
      have hl3 := numR_len r3
      rw [e, List.length_cons] at hl
      cases (numR r3).1 with
      | none => rfl
      | some y => exact ih _ _ (by omega)
  · rfl
def inR (x : Int) : Prop := 0 ≤ x ∧ x ≤ 2147483647
theorem mk_noDg {m : UInt8} (hm : isDg m = false) (l : List Int) {r : List UInt8} (hr : NoDg r) : NoDg (eachB m l ++ r) := by
  cases l with
  | nil => exact hr
  | cons x l => exact NoDg.cons hm
theorem toN {x : Int} (h : 0 ≤ x) : ((x.toNat : Nat) : Int) = x := by omega
theorem rf_dn {r : List UInt8} (hr : NoDg r) : ∀ (l : List Int) (t : Tk), (∀ x ∈ l, inR x) → rfA (eachB 43 l ++ r) t = rfA r { t with dn := t.dn ++ l }
  | [], t, _ => by rw [List.append_nil]; rfl
  | x :: l, t, h => by
    obtain ⟨h0, h1⟩ := h x List.mem_cons_self
    have e : eachB 43 (x :: l) ++ r = 43 :: (digs x.toNat ++ (eachB 43 l ++ r)) := by simp [eachB, mkB]
    have hn := numR_digs h0 h1 (mk_noDg (m := 43) (by decide) l hr)
    rw [e, rfA_some t (n := x.toNat) (by rw [hn]), hn, if_pos rfl, toN h0]
    dsimp only
    rw [rf_dn hr l _ fun y hy => h y (List.mem_cons_of_mem _ hy)]
    simp
theorem rf_ct {r : List UInt8} (hr : NoDg r) : ∀ (l : List Int) (t : Tk), (∀ x ∈ l, inR x) → rfA (eachB 47 l ++ r) t = rfA r { t with ct := t.ct ++ l }
  | [], t, _ => by rw [List.append_nil]; rfl
  | x :: l, t, h => by
    obtain ⟨h0, h1⟩ := h x List.mem_cons_self
    have e : eachB 47 (x :: l) ++ r = 47 :: (digs x.toNat ++ (eachB 47 l ++ r)) := by simp [eachB, mkB]
    have hn := numR_digs h0 h1 (mk_noDg (m := 47) (by decide) l hr)
    rw [e, rfA_some t (n := x.toNat) (by rw [hn]), hn, if_neg (by decide), if_pos rfl, toN h0]
    dsimp only
    rw [rf_ct hr l _ fun y hy => h y (List.mem_cons_of_mem _ hy)]
    simp
theorem rf_ms {r : List UInt8} (hr : NoDg r) : ∀ (l : List Int) (t : Tk), (∀ x ∈ l, inR x) → rfA (eachB 33 l ++ r) t = rfA r { t with ms := t.ms ++ l }
  | [], t, _ => by rw [List.append_nil]; rfl
  | x :: l, t, h => by
    obtain ⟨h0, h1⟩ := h x List.mem_cons_self
    have e : eachB 33 (x :: l) ++ r = 33 :: (digs x.toNat ++ (eachB 33 l ++ r)) := by simp [eachB, mkB]
    have hn := numR_digs h0 h1 (mk_noDg (m := 33) (by decide) l hr)
    rw [e, rfA_some t (n := x.toNat) (by rw [hn]), hn, if_neg (by decide), if_neg (by decide), if_pos rfl, toN h0]
    dsimp only
    rw [rf_ms hr l _ fun y hy => h y (List.mem_cons_of_mem _ hy)]
    simp
theorem ft_noDg (l : List (Int × Int × Int)) : NoDg (l.flatMap ftB) := by
  cases l with
  | nil => exact NoDg.nil
  | cons f l => exact NoDg.cons (by decide)
theorem rf_ft : ∀ (l : List (Int × Int × Int)) (t : Tk), (∀ f ∈ l, mayF f = true) → rfA (l.flatMap ftB) t = some { t with ft := t.ft ++ l }
  | [], t, _ => by rw [List.append_nil]; exact rfA_nil t
  | f :: l, t, hf => by
    have hm := hf f List.mem_cons_self
    unfold mayF at hm
    simp only [Bool.and_eq_true, Bool.or_eq_true, decide_eq_true_eq] at hm
    obtain ⟨d, hd⟩ : ∃ d : UInt8, (if f.2.1 = 1 then (100 : UInt8) else 97) = d := ⟨_, rfl⟩
    have hdd : isDg d = false := by rw [← hd]; split <;> decide
    have e : (f :: l).flatMap ftB = 61 :: (digs f.1.toNat ++ (d :: (digs f.2.2.toNat ++ l.flatMap ftB))) := by
      rw [List.flatMap_cons]; unfold ftB mkB; rw [hd]; simp
    have n1 := numR_digs (x := f.1) (by omega) (by omega) (NoDg.cons (l := digs f.2.2.toNat ++ l.flatMap ftB) hdd)
    have n2 := numR_digs (x := f.2.2) (by omega) (by omega) (ft_noDg l)
    rw [e, rfA_some t (n := f.1.toNat) (by rw [n1]), n1, if_neg (by decide), if_neg (by decide), if_neg (by decide), if_pos rfl]
    dsimp only
    rw [n2]
    dsimp only
    rw [rf_ft l _ fun g hg => hf g (List.mem_cons_of_mem _ hg), toN (by omega), toN (by omega)]
    have hk : (if d = 100 then (1 : Int) else 2) = f.2.1 := by
      rw [← hd]
      by_cases hk : f.2.1 = 1
      · rw [if_pos hk, if_pos rfl, hk]
      · rw [if_neg hk, if_neg (by decide)]; omega
    rw [hk]
    simp
/-- Who ran, by the first mark, and what is left. -/
def rfW (c : UInt8) (r : List UInt8) : Int × List UInt8 :=
  if c = 116 then ((match (numR r).1 with | none => -1 | some n => (n : Int)), (numR r).2)
  else if c = 115 then (100 + (match (numR r).1 with | none => -1 | some n => (n : Int)), (numR r).2) else (-1, r)
/-- A record that was read is told, and compared. -/
def chkB (s : List UInt8) (o : Option Tk) : Option Tk := o.bind fun t => if txO t = s then some t else none
def rfB : List UInt8 → Option Tk
  | [] => none
  | c :: r => chkB (c :: r) (rfA (rfW c r).2 { tk0 with who := (rfW c r).1 })
theorem rfB_cons (c : UInt8) (r : List UInt8) : rfB (c :: r) = chkB (c :: r) (rfA (rfW c r).2 { tk0 with who := (rfW c r).1 }) := rfl
theorem rfB_iff (s : List UInt8) (t : Tk) : rfB s = some t ↔ mayT t = true ∧ txB t = s := by
  constructor
  · intro h
    match s, h with
    | c :: r, h =>
      rw [rfB_cons] at h
      unfold chkB at h
      obtain ⟨t', e, h⟩ := Option.bind_eq_some_iff.1 h
      by_cases hc : txO t' = c :: r
      · rw [if_pos hc] at h
        have h := Option.some.inj h
        subst h
        have hm := txO_ne (t := t') (by rw [hc]; exact List.cons_ne_nil _ _)
        refine ⟨hm, ?_⟩
        unfold txO at hc
        rw [if_pos hm] at hc; exact hc
      · rw [if_neg hc] at h; cases h
  · rintro ⟨hm, rfl⟩
    obtain ⟨h1, h2, h3, h4, h5⟩ := mayT_parts hm
    have q3 : ∀ x ∈ t.dn, inR x := fun x hx => by have := rsI_in _ _ (by omega) h3 x hx; exact ⟨by omega, by omega⟩
    have q4 : ∀ x ∈ t.ct, inR x := fun x hx => by have := rsI_in _ _ (by omega) h4 x hx; exact ⟨by omega, by omega⟩
    have q5 : ∀ x ∈ t.ms, inR x := fun x hx => by have := rsI_in _ _ (by omega) h5 x hx; exact ⟨by omega, by omega⟩
    obtain ⟨R, hR⟩ : ∃ R, eachB 43 t.dn ++ (eachB 47 t.ct ++ (eachB 33 t.ms ++ t.ft.flatMap ftB)) = R := ⟨_, rfl⟩
    have nR : NoDg R := by rw [← hR]; exact mk_noDg (by decide) _ (mk_noDg (by decide) _ (mk_noDg (by decide) _ (ft_noDg _)))
    have key : ∀ w, rfA R { tk0 with who := w } = some { t with who := w } := fun w => by
      rw [← hR, rf_dn (mk_noDg (by decide) _ (mk_noDg (by decide) _ (ft_noDg _))) _ _ q3, rf_ct (mk_noDg (by decide) _ (ft_noDg _)) _ _ q4, rf_ms (ft_noDg _) _ _ q5, rf_ft _ _ h1]
      simp [tk0]
    have hto : txO t = txB t := if_pos hm
    have htx : txB t = whoB t.who ++ R := by rw [← hR]; rfl
    have fin : ∀ c r, txB t = c :: r → rfW c r = (t.who, R) → rfB (txB t) = some t := fun c r e1 e2 => by
      rw [e1, rfB_cons, e2]
      dsimp only
      rw [key]
      show (if txO t = c :: r then some t else none) = _
      rw [if_pos (hto.trans e1)]
    rcases mayW_in h2 with h | h | h
    · refine fin 46 R (by rw [htx, h]; rfl) ?_
      rw [h]; rfl
    · refine fin 116 (digs t.who.toNat ++ R) (by rw [htx]; unfold whoB; rw [if_neg (by omega), if_pos h.1]; rfl) ?_
      unfold rfW
      rw [if_pos rfl, numR_digs h.1 (by omega) nR]
      dsimp only
      rw [toN h.1]
    · refine fin 115 (digs (t.who - 100).toNat ++ R) (by rw [htx]; unfold whoB; rw [if_pos h.1]; rfl) ?_
      unfold rfW
      rw [if_neg (by decide), if_pos rfl, numR_digs (by omega) (by omega) nR]
      dsimp only
      rw [toN (by omega)]
      congr 1
      omega
/-- Both ways to read a text tell the same. -/
theorem pr_rf (s : List UInt8) : prB s = rfB s := Option.ext fun t => (prB_iff s t).trans (rfB_iff s t).symm
/-- No two records have the same text. -/
theorem txB_inj {t u : Tk} (ht : mayT t = true) (hu : mayT u = true) (h : txB t = txB u) : t = u := by
  have h1 := (prB_iff (txB u) t).2 ⟨ht, h⟩
  have h2 := (prB_iff (txB u) u).2 ⟨hu, rfl⟩
  rw [h1] at h2
  exact Option.some.inj h2
end Go.Proofs.YtlceanlenekanaaDoor
