/- Layer 25, plain: a record, its text, its parts; how a text is read. Nothing of one law. -/
import Derived.Test.YtlceanlenekanaaDoorStrB
namespace Go.Proofs.YtlceanlenekanaaDoor
set_option linter.unusedVariables false
/-- A record: who ran; the jobs that were done, cut off, missed; the outcomes. -/
structure Tk where
  who : Int
  dn : List Int
  ct : List Int
  ms : List Int
  ft : List (Int × Int × Int)
def rsI (a : Int) : List Int → Bool
  | [] => true
  | x :: l => decide (a < x) && decide (x < 32) && rsI x l
def mayW (w : Int) : Bool := decide (w = -1) || (decide (0 ≤ w) && decide (w < 32)) || (decide (100 ≤ w) && decide (w < 116))
def mayF (f : Int × Int × Int) : Bool := decide (0 ≤ f.1) && decide (f.1 ≤ 65535) && ((decide (f.2.1 = 1) && (decide (0 ≤ f.2.2) && decide (f.2.2 ≤ 255))) || (decide (f.2.1 = 2) && (decide (1 ≤ f.2.2) && decide (f.2.2 ≤ 3))))
def mayT (t : Tk) : Bool := t.ft.all mayF && (mayW t.who && rsI (-1) t.dn && rsI (-1) t.ct && rsI (-1) t.ms)
def mkB (m : UInt8) (x : Int) : List UInt8 := m :: digs x.toNat
def eachB (m : UInt8) (l : List Int) : List UInt8 := l.flatMap (mkB m)
def whoB (w : Int) : List UInt8 := if 100 ≤ w then mkB 115 (w - 100) else if 0 ≤ w then mkB 116 w else [46]
def ftB (f : Int × Int × Int) : List UInt8 := mkB 61 f.1 ++ mkB (if f.2.1 = 1 then 100 else 97) f.2.2
def txB (t : Tk) : List UInt8 := whoB t.who ++ (eachB 43 t.dn ++ (eachB 47 t.ct ++ (eachB 33 t.ms ++ t.ft.flatMap ftB)))
def txO (t : Tk) : List UInt8 := if mayT t = true then txB t else []
theorem whoB_ne (w : Int) : whoB w ≠ [] := by
  unfold whoB mkB
  split
  · simp
  · split <;> simp
theorem txB_ne (t : Tk) : txB t ≠ [] := fun h => whoB_ne t.who (List.append_eq_nil_iff.1 h).1
theorem txO_ne {t : Tk} (h : txO t ≠ []) : mayT t = true := by
  cases e : mayT t with
  | true => rfl
  | false => exact absurd (if_neg (by rw [e]; exact Bool.false_ne_true)) h
/-- Parts: marks and numbers. -/
inductive It where
  | m (r : Int)
  | n (x : Int)
def eachI (m : Int) (l : List Int) : List It := l.flatMap fun x => [.m m, .n x]
def whoI (w : Int) : List It := if 100 ≤ w then [.m 115, .n (w - 100)] else if 0 ≤ w then [.m 116, .n w] else [.m 46]
def ftI (f : Int × Int × Int) : List It := [.m 61, .n f.1, .m (if f.2.1 = 1 then 100 else 97), .n f.2.2]
def ptI (t : Tk) : List It := whoI t.who ++ (eachI 43 t.dn ++ (eachI 47 t.ct ++ (eachI 33 t.ms ++ t.ft.flatMap ftI)))
def itB : It → List UInt8
  | .m r => [UInt8.ofNat r.toNat]
  | .n x => digs x.toNat
def itsB (l : List It) : List UInt8 := l.flatMap itB
theorem itsB_app (a b : List It) : itsB (a ++ b) = itsB a ++ itsB b := by unfold itsB; rw [List.flatMap_append]
theorem itsB_each (m : Int) (l : List Int) : itsB (eachI m l) = eachB (UInt8.ofNat m.toNat) l := by
  unfold itsB eachI eachB
  rw [List.flatMap_assoc]
  congr 1
  funext x
  simp [itB, mkB]
theorem itsB_who (w : Int) : itsB (whoI w) = whoB w := by
  unfold whoI whoB
  split
  · simp [itsB, itB, mkB]
  · split <;> simp [itsB, itB, mkB]
theorem itsB_ft (l : List (Int × Int × Int)) : itsB (l.flatMap ftI) = l.flatMap ftB := by
  unfold itsB
  rw [List.flatMap_assoc]
  congr 1
  funext f
  unfold ftI ftB
  by_cases h : f.2.1 = 1
  · rw [if_pos h, if_pos h]; simp [itB, mkB]
  · rw [if_neg h, if_neg h]; simp [itB, mkB]
/-- The parts told one behind the other are the text. -/
theorem itsB_pt (t : Tk) : itsB (ptI t) = txB t := by
  unfold ptI txB
  rw [itsB_app, itsB_app, itsB_app, itsB_app, itsB_who, itsB_each, itsB_each, itsB_each, itsB_ft]
  rfl
/-! ### A text parted -/
def flush (s : List It × List UInt8) : Option (List It) := if s.2 = [] then some s.1 else if mayN s.2 = true then some (s.1 ++ [.n (valB s.2 : Nat)]) else none
def spS (s : List It × List UInt8) (b : UInt8) : Option (List It × List UInt8) := if isDg b = true then some (s.1, s.2 ++ [b]) else (flush s).map fun l => (l ++ [.m (b.toNat : Nat)], [])
def spF : List UInt8 → List It × List UInt8 → Option (List It × List UInt8)
  | [], s => some s
  | b :: l, s => (spS s b).bind (spF l)
theorem spF_app : ∀ (a b : List UInt8) (s : List It × List UInt8), spF (a ++ b) s = (spF a s).bind (spF b)
  | [], _, _ => rfl
  | c :: a, b, s => by
    show (spS s c).bind (spF (a ++ b)) = ((spS s c).bind (spF a)).bind (spF b)
    cases spS s c with
    | none => rfl
    | some s' => exact spF_app a b s'
def spB (l : List UInt8) : Option (List It) := (spF l ([], [])).bind flush
theorem spF_digs : ∀ (d : List UInt8) (s : List It × List UInt8), (∀ b ∈ d, isDg b = true) → spF d s = some (s.1, s.2 ++ d)
  | [], s, _ => by rw [List.append_nil]; rfl
  | b :: d, s, h => by
    show (spS s b).bind (spF d) = _
    unfold spS
    rw [if_pos (h b List.mem_cons_self)]
    show spF d (s.1, s.2 ++ [b]) = _
    rw [spF_digs d _ fun c hc => h c (List.mem_cons_of_mem _ hc)]
    simp
/-- Read so far, what is under way shut. -/
def Reach (bs : List UInt8) (its : List It) : Prop := ∃ s, spF bs ([], []) = some s ∧ flush s = some its
theorem Reach.nil : Reach [] [] := ⟨([], []), rfl, rfl⟩
theorem Reach.all {bs : List UInt8} {its : List It} (h : Reach bs its) : spB bs = some its := by
  obtain ⟨s, h1, h2⟩ := h
  unfold spB
  rw [h1]; exact h2
theorem Reach.mark {bs : List UInt8} {its : List It} (h : Reach bs its) {m : UInt8} (hm : isDg m = false) : Reach (bs ++ [m]) (its ++ [.m (m.toNat : Nat)]) := by
  obtain ⟨s, h1, h2⟩ := h
  refine ⟨(its ++ [.m (m.toNat : Nat)], []), ?_, rfl⟩
  rw [spF_app, h1]
  show (spS s m).bind (spF []) = _
  unfold spS
  rw [if_neg (by rw [hm]; exact Bool.false_ne_true), h2]; rfl
theorem Reach.num {bs : List UInt8} {its : List It} (h : Reach bs its) {m : UInt8} (hm : isDg m = false) {x : Int} (h0 : 0 ≤ x) (h1 : x ≤ 2147483647) : Reach (bs ++ mkB m x) (its ++ [.m (m.toNat : Nat), .n x]) := by
  obtain ⟨s, e1, e2⟩ := h
  refine ⟨(its ++ [.m (m.toNat : Nat)], digs x.toNat), ?_, ?_⟩
  · rw [spF_app, e1]
    show (spS s m).bind (spF (digs x.toNat)) = _
    unfold spS
    rw [if_neg (by rw [hm]; exact Bool.false_ne_true), e2]
    show spF (digs x.toNat) (its ++ [.m (m.toNat : Nat)], []) = _
    rw [spF_digs _ _ (digs_all _)]; rfl
  · unfold flush
    have hne : digs x.toNat ≠ [] := List.length_pos_iff.1 (digs_len _)
    rw [if_neg hne, if_pos (by rw [mayN_digs]; exact decide_eq_true (by omega)), digs_val]
    have : ((x.toNat : Nat) : Int) = x := by omega
    rw [this]; simp
theorem Reach.each {m : UInt8} (hm : isDg m = false) : ∀ (l : List Int) {bs : List UInt8} {its : List It}, Reach bs its → (∀ x ∈ l, 0 ≤ x ∧ x ≤ 2147483647) → Reach (bs ++ eachB m l) (its ++ eachI (m.toNat : Nat) l)
  | [], bs, its, h, _ => by unfold eachB eachI; rw [List.flatMap_nil, List.flatMap_nil, List.append_nil, List.append_nil]; exact h
  | x :: l, bs, its, h, hx => by
    have h2 := Reach.each hm l (h.num hm (hx x List.mem_cons_self).1 (hx x List.mem_cons_self).2) fun y hy => hx y (List.mem_cons_of_mem _ hy)
    unfold eachB eachI at h2 ⊢
    rw [List.flatMap_cons, List.flatMap_cons, ← List.append_assoc, ← List.append_assoc]
    exact h2
theorem Reach.fates : ∀ (l : List (Int × Int × Int)) {bs : List UInt8} {its : List It}, Reach bs its → (∀ f ∈ l, mayF f = true) → Reach (bs ++ l.flatMap ftB) (its ++ l.flatMap ftI)
  | [], bs, its, h, _ => by rw [List.flatMap_nil, List.flatMap_nil, List.append_nil, List.append_nil]; exact h
  | f :: l, bs, its, h, hf => by
    have hm := hf f List.mem_cons_self
    unfold mayF at hm
    simp only [Bool.and_eq_true, Bool.or_eq_true, decide_eq_true_eq] at hm
    have h1 := h.num (m := 61) (by decide) (x := f.1) (by omega) (by omega)
    have h2 : Reach (bs ++ ftB f) (its ++ ftI f) := by
      unfold ftB ftI
      by_cases hk : f.2.1 = 1
      · rw [if_pos hk, if_pos hk, ← List.append_assoc]
        have := h1.num (m := 100) (by decide) (x := f.2.2) (by omega) (by omega)
        rw [List.append_assoc its] at this
        exact this
      · rw [if_neg hk, if_neg hk, ← List.append_assoc]
        have := h1.num (m := 97) (by decide) (x := f.2.2) (by omega) (by omega)
        rw [List.append_assoc its] at this
        exact this
    have h3 := Reach.fates l h2 fun g hg => hf g (List.mem_cons_of_mem _ hg)
    rw [List.flatMap_cons, List.flatMap_cons, ← List.append_assoc, ← List.append_assoc]
    exact h3
theorem rsI_in : ∀ (l : List Int) (a : Int), -1 ≤ a → rsI a l = true → ∀ x ∈ l, 0 ≤ x ∧ x < 32
  | [], _, _, _, x, hx => by cases hx
  | y :: l, a, ha, h, x, hx => by
    unfold rsI at h
    simp only [Bool.and_eq_true, decide_eq_true_eq] at h
    rcases List.mem_cons.1 hx with rfl | hx
    · omega
    · exact rsI_in l y (by omega) h.2 x hx
theorem mayT_parts {t : Tk} (h : mayT t = true) : (∀ f ∈ t.ft, mayF f = true) ∧ mayW t.who = true ∧ rsI (-1) t.dn = true ∧ rsI (-1) t.ct = true ∧ rsI (-1) t.ms = true := by
  unfold mayT at h
  simp only [Bool.and_eq_true] at h
  exact ⟨List.all_eq_true.1 h.1, h.2.1.1.1, h.2.1.1.2, h.2.1.2, h.2.2⟩
theorem mayW_in {w : Int} (h : mayW w = true) : w = -1 ∨ (0 ≤ w ∧ w < 32) ∨ (100 ≤ w ∧ w < 116) := by
  unfold mayW at h
  simp only [Bool.or_eq_true, Bool.and_eq_true, decide_eq_true_eq] at h
  rcases h with (h | h) | h
  · exact Or.inl h
  · exact Or.inr (Or.inl h)
  · exact Or.inr (Or.inr h)
theorem Reach.who {w : Int} (h : mayW w = true) : Reach (whoB w) (whoI w) := by
  rcases mayW_in h with rfl | h | h
  · have := Reach.nil.mark (m := 46) (by decide)
    exact this
  · have := Reach.nil.num (m := 116) (by decide) (x := w) (by omega) (by omega)
    unfold whoB whoI
    rw [if_neg (by omega), if_pos h.1, if_neg (by omega), if_pos h.1]
    exact this
  · have := Reach.nil.num (m := 115) (by decide) (x := w - 100) (by omega) (by omega)
    unfold whoB whoI
    rw [if_pos h.1, if_pos h.1]
    exact this
/-- A record's text has just its parts. -/
theorem spB_tx {t : Tk} (h : mayT t = true) : spB (txB t) = some (ptI t) := by
  obtain ⟨h1, h2, h3, h4, h5⟩ := mayT_parts h
  have a1 := Reach.who h2
  have a2 := a1.each (m := 43) (by decide) t.dn fun x hx => by have := rsI_in _ _ (by omega) h3 x hx; omega
  have a3 := a2.each (m := 47) (by decide) t.ct fun x hx => by have := rsI_in _ _ (by omega) h4 x hx; omega
  have a4 := a3.each (m := 33) (by decide) t.ms fun x hx => by have := rsI_in _ _ (by omega) h5 x hx; omega
  have a5 := a4.fates t.ft h1
  unfold txB ptI
  have := a5.all
  simp only [List.append_assoc] at this ⊢
  exact this
/-! ### Parts read -/
/-- How the last outcome came out. -/
def setL (l : List (Int × Int × Int)) (k y : Int) : Option (List (Int × Int × Int)) :=
  match l.getLast? with
  | none => none
  | some f => some (l.dropLast ++ [(f.1, k, y)])
def putI (t : Tk) (r x : Int) : Option Tk :=
  if r = 116 then some { t with who := x } else if r = 115 then some { t with who := 100 + x }
  else if r = 43 then some { t with dn := t.dn ++ [x] } else if r = 47 then some { t with ct := t.ct ++ [x] } else if r = 33 then some { t with ms := t.ms ++ [x] }
  else if r = 61 then some { t with ft := t.ft ++ [(x, 0, 0)] }
  else if r = 100 then (setL t.ft 1 x).map fun l => { t with ft := l } else if r = 97 then (setL t.ft 2 x).map fun l => { t with ft := l } else none
def rdI : List It → Tk → Option Tk
  | [], t => some t
  | .n _ :: _, _ => none
  | .m r :: l, t => if r = 46 then rdI l t else match l with
    | .n x :: l' => match putI t r x with
      | none => none
      | some t' => rdI l' t'
    | _ => none
theorem rdI_two (r x : Int) (l : List It) (t t' : Tk) (h : r ≠ 46) (hp : putI t r x = some t') : rdI (.m r :: .n x :: l) t = rdI l t' := by
  rw [rdI, if_neg h]
  simp only [hp]
theorem rdI_dot (r : List It) (t : Tk) : rdI (.m 46 :: r) t = rdI r t := by
  cases r with
  | nil => simp [rdI]
  | cons a r => cases a <;> simp [rdI]
def tk0 : Tk := ⟨-1, [], [], [], []⟩
theorem rd_dn : ∀ (l : List Int) (r : List It) (t : Tk), rdI (eachI 43 l ++ r) t = rdI r { t with dn := t.dn ++ l }
  | [], r, t => by rw [List.append_nil]; rfl
  | x :: l, r, t => by
    show rdI (.m 43 :: .n x :: (eachI 43 l ++ r)) t = _
    rw [rdI_two _ _ _ _ { t with dn := t.dn ++ [x] } (by decide) rfl, rd_dn l r]
    simp
theorem rd_ct : ∀ (l : List Int) (r : List It) (t : Tk), rdI (eachI 47 l ++ r) t = rdI r { t with ct := t.ct ++ l }
  | [], r, t => by rw [List.append_nil]; rfl
  | x :: l, r, t => by
    show rdI (.m 47 :: .n x :: (eachI 47 l ++ r)) t = _
    rw [rdI_two _ _ _ _ { t with ct := t.ct ++ [x] } (by decide) rfl, rd_ct l r]
    simp
theorem rd_ms : ∀ (l : List Int) (r : List It) (t : Tk), rdI (eachI 33 l ++ r) t = rdI r { t with ms := t.ms ++ l }
  | [], r, t => by rw [List.append_nil]; rfl
  | x :: l, r, t => by
    show rdI (.m 33 :: .n x :: (eachI 33 l ++ r)) t = _
    rw [rdI_two _ _ _ _ { t with ms := t.ms ++ [x] } (by decide) rfl, rd_ms l r]
    simp
theorem setL_last (l : List (Int × Int × Int)) (f : Int × Int × Int) (k y : Int) : setL (l ++ [f]) k y = some (l ++ [(f.1, k, y)]) := by
  unfold setL
  rw [List.getLast?_append]
  simp
theorem rd_ft : ∀ (l : List (Int × Int × Int)) (t : Tk), (∀ f ∈ l, mayF f = true) → rdI (l.flatMap ftI) t = some { t with ft := t.ft ++ l }
  | [], t, _ => by rw [List.append_nil]; rfl
  | f :: l, t, hf => by
    have hm := hf f List.mem_cons_self
    unfold mayF at hm
    simp only [Bool.and_eq_true, Bool.or_eq_true, decide_eq_true_eq] at hm
    rw [List.flatMap_cons]
    show rdI (.m 61 :: .n f.1 :: .m (if f.2.1 = 1 then 100 else 97) :: .n f.2.2 :: l.flatMap ftI) t = _
    rw [rdI_two _ _ _ _ { t with ft := t.ft ++ [(f.1, 0, 0)] } (by decide) rfl]
    have e : ∃ k, f.2.1 = k ∧ putI { t with ft := t.ft ++ [(f.1, 0, 0)] } (if f.2.1 = 1 then 100 else 97) f.2.2 = some { t with ft := t.ft ++ [(f.1, k, f.2.2)] } := by
      refine ⟨_, rfl, ?_⟩
      by_cases hk : f.2.1 = 1
      · rw [if_pos hk, hk]
        show (setL (t.ft ++ [(f.1, 0, 0)]) 1 f.2.2).map _ = _
        rw [setL_last]; rfl
      · have hk2 : f.2.1 = 2 := by omega
        rw [if_neg hk, hk2]
        show (setL (t.ft ++ [(f.1, 0, 0)]) 2 f.2.2).map _ = _
        rw [setL_last]; rfl
    obtain ⟨k, hk, e⟩ := e
    rw [rdI_two _ _ _ _ _ (by split <;> decide) e, rd_ft l _ fun g hg => hf g (List.mem_cons_of_mem _ hg)]
    have : (f.1, k, f.2.2) = f := by rw [← hk]
    rw [this]
    simp
theorem rd_who {w : Int} (h : mayW w = true) (r : List It) : rdI (whoI w ++ r) tk0 = rdI r { tk0 with who := w } := by
  rcases mayW_in h with rfl | h | h
  · show rdI (.m 46 :: r) tk0 = _
    rw [rdI_dot]; rfl
  · unfold whoI
    rw [if_neg (by omega), if_pos h.1]
    exact rdI_two _ _ _ _ _ (by decide) rfl
  · unfold whoI
    rw [if_pos h.1]
    have : putI tk0 115 (w - 100) = some { tk0 with who := w } := by
      show some { tk0 with who := 100 + (w - 100) } = _
      rw [show 100 + (w - 100) = w by omega]
    exact rdI_two _ _ _ _ _ (by decide) this
/-- A record's parts are read as that record. -/
theorem rdI_pt {t : Tk} (h : mayT t = true) : rdI (ptI t) tk0 = some t := by
  obtain ⟨h1, h2, _⟩ := mayT_parts h
  unfold ptI
  rw [rd_who h2, rd_dn, rd_ct, rd_ms, rd_ft _ _ h1]
  simp [tk0]
/-- A text read, by its parts. -/
def prB (s : List UInt8) : Option Tk := match (spB s).bind fun l => rdI l tk0 with
  | none => none
  | some t => if s ≠ [] ∧ txO t = s then some t else none
theorem prB_iff (s : List UInt8) (t : Tk) : prB s = some t ↔ mayT t = true ∧ txB t = s := by
  constructor
  · intro h
    unfold prB at h
    cases e : (spB s).bind fun l => rdI l tk0 with
    | none => rw [e] at h; cases h
    | some t' =>
      rw [e] at h
      by_cases hc : s ≠ [] ∧ txO t' = s
      · simp only [if_pos hc, Option.some.injEq] at h
        subst h
        have hm := txO_ne (t := t') (by rw [hc.2]; exact hc.1)
        refine ⟨hm, ?_⟩
        have := hc.2
        unfold txO at this
        rw [if_pos hm] at this; exact this
      · simp only [if_neg hc] at h; cases h
  · rintro ⟨hm, rfl⟩
    unfold prB
    rw [spB_tx hm]
    show (match rdI (ptI t) tk0 with | none => none | some t' => if txB t ≠ [] ∧ txO t' = txB t then some t' else none) = _
    rw [rdI_pt hm]
    exact if_pos ⟨txB_ne t, if_pos hm⟩
end Go.Proofs.YtlceanlenekanaaDoor
