/- Layer 20: the pool that the laws begin with, and the laws' own small functions. Layer 20: a device: each call with all that it tells and leaves. Layer 20: a device of one request, step by step. -/
import Derived.Test.YtdjhpdacglojaaaGreatIoqR
import Derived.Test.YtdjhpdacglojaaaGreatIqN
namespace Go.Proofs.YtdjhpdacglojaaaGreat
open Go.RowKit
section
set_option linter.unusedVariables false
set_option maxRecDepth 100000
set_option maxHeartbeats 1000000
/-- The pool of five buffers, of which some were got. -/
def stG (k : Nat) : Nat → po.Buf := fun j => if j < k then po.got (po.fresh [8, 8, 8, 20, 20] j) else po.fresh [8, 8, 8, 20, 20] j
theorem stG_0 : stG 0 = po.fresh [8, 8, 8, 20, 20] := by funext j; exact if_neg (by omega)
theorem stG_len (k : Nat) : ∀ j, j < 5 → (stG k j).bs.length = [8, 8, 8, 20, 20].getD j 0 ∧ (stG k j).gen = 1 ∧ (stG k j).owner = (if j < k then 1 else 0) ∧ (stG k j).bs = List.replicate ([8, 8, 8, 20, 20].getD j 0) 0 := fun j hj => by
  unfold stG
  by_cases h : j < k
  · rw [if_pos h, if_pos h]; exact ⟨by simp [po.got, po.fresh], rfl, rfl, by simp [po.got, po.fresh]⟩
  · rw [if_neg h, if_neg h]; exact ⟨by simp [po.fresh], rfl, rfl, rfl⟩
theorem stG_ok (k : Nat) : po.POK 5 (stG k) 1 := by
  refine ⟨by omega, by omega, by omega, fun j hj => ?_⟩
  obtain ⟨h1, h2, h3, h4⟩ := stG_len k j hj
  refine ⟨by rw [h2]; omega, by rw [h3]; split <;> omega, ?_, ?_⟩
  · unfold stG po.got po.fresh; split <;> simp
  · rw [h1]
    rcases (show j = 0 ∨ j = 1 ∨ j = 2 ∨ j = 3 ∨ j = 4 by omega) with rfl | rfl | rfl | rfl | rfl <;> decide
theorem stG_get {k : Nat} (hk : k < 5) : po.GetP 5 (stG k) 1 (k : Int) 1 0 (stG (k + 1)) := by
  refine Or.inr (Or.inr ⟨⟨by omega, by rw [(stG_len k 4 (by omega)).1]; decide⟩, k, hk, fun j hj hf => ?_, ?_, rfl, (stG_len k k hk).2.1.symm, rfl, ?_⟩)
  · have h := (stG_len k j (by omega)).2.2.1
    rw [if_pos hj] at h
    have := hf.1
    omega
  · refine ⟨by rw [(stG_len k k hk).2.2.1, if_neg (by omega)], ?_⟩
    rw [(stG_len k k hk).1]
    rcases (show k = 0 ∨ k = 1 ∨ k = 2 ∨ k = 3 ∨ k = 4 by omega) with rfl | rfl | rfl | rfl | rfl <;> decide
  · have e1 : stG k k = po.fresh [8, 8, 8, 20, 20] k := if_neg (by omega)
    rw [e1]
    funext j
    by_cases e : j = k
    · rw [e, po.updB_self]; exact if_pos (by omega)
    · rw [po.updB_ne _ _ e]; unfold stG
      by_cases h : j < k
      · rw [if_pos h, if_pos (by omega)]
      · rw [if_neg h, if_neg (by omega)]
section
variable {w0 w w' : World} {S0 : Nat → Prop} {L X N : List Res}
def ZG (j : Nat) : Int := if j = 0 then 8 else 20
def CG (j : Nat) : Int := if j = 0 then 3 else 2
/-- So much further on. -/
def ltr (now n : Int) : Int := if n < 0 then now else now + n % 200
end
end
section
set_option linter.unusedVariables false
set_option maxRecDepth 100000
set_option maxHeartbeats 1000000
def SubQ (n : Nat) (D : Dv) (r : Rq) (f : Int) (D' : Dv) : Prop := ∃ z c o rf oc, po.SizeP n D.st r.slot r.gen z c ∧ po.OwnerP n D.st r.slot r.gen o rf oc ∧ SubP n D z c o r f D'
section
variable {n sz : Nat} {G : Int} {D D' : Dv} {k : Nat} {ids : List Int} {r : Rq} {f : Int} {w0 w w' : World} {S0 : Nat → Prop} {X N : List Res} {a : Da} {bp : Nat → Nat}
/-- Let in, or as it was. -/
theorem SubQ.ways (h : SubQ n D r f D') (hI : DvI n sz G D) (hcap : D.nx + 1 ≤ 80000) (hr : r.tk = false ∧ r.fi = false ∧ r.vo = false) :
    (f ≠ 0 ∧ D' = D) ∨ (f = 0 ∧ opnA D.b r.id r.dead = 0 ∧ ¬ D.posted r.id ∧ ∃ st', D' = Dv.newR { D with q := { D.q with l := D.q.l ++ [r.wt] }, b := D.b.opn r.id r.dead, st := st' } r.id r ∧ KeepS n D.st st' ∧ DvI n sz G D') := by
  obtain ⟨z, c, o, rf, oc, hz, ho, hP⟩ := h
  rcases hP with ⟨-, rfl, e⟩ | ⟨-, -, rfl, e⟩ | ⟨-, -, -, rfl, e⟩ | ⟨hm, rfl, hp, q1, f1, ha, ⟨hf, rfl, e⟩ | ⟨-, hf, rfl, e⟩ | ⟨rfl, hb, st', hv, rfl⟩⟩
  · exact Or.inl ⟨by omega, e⟩
  · exact Or.inl ⟨by omega, e⟩
  · exact Or.inl ⟨by omega, e⟩
  · exact Or.inl ⟨hf, e⟩
  · exact Or.inl ⟨hf, e⟩
  · obtain ⟨rfl, hI', hK⟩ := hI.newR hcap hz ho hm hr hp ha hb hv
    have eq1 : q1 = { D.q with l := D.q.l ++ [r.wt] } := by
      rcases ha with ⟨-, e, -⟩ | ⟨-, -, e, -⟩ | ⟨-, -, -, e, -⟩ | ⟨-, -, -, -, d⟩
      · cases e
      · cases e
      · cases e
      · exact d
    subst eq1
    exact Or.inr ⟨rfl, hb, hp, st', rfl, hK, hI'⟩
theorem subW (H : St w0 S0 w (DvL a n sz bp D ++ X)) (hI : DvI n sz G D) (r : Rq) (hr : r.tk = false ∧ r.fi = false ∧ r.vo = false ∧ r.bd = false) (hid : wfI r.id) (h0 : 0 ≤ r.dead) (h1 : r.dead ≤ 18446744073709551615) (hcap : D.nx + 1 ≤ 80000) :
    Calls Tryz.prog 11 #[ptrV a.d, .agg r.req] w fun e w' => ∃ f D' bp', e = .returned (.int .i64 f) ∧ ((f ≠ 0 ∧ D' = D) ∨ (f = 0 ∧ opnA D.b r.id r.dead = 0 ∧ ¬ D.posted r.id ∧ ∃ st', D' = Dv.newR { D with q := { D.q with l := D.q.l ++ [r.wt] }, b := D.b.opn r.id r.dead, st := st' } r.id r ∧ KeepS n D.st st' ∧ DvI n sz G D')) ∧ St w0 S0 w' (DvL a n sz bp' D' ++ X) := by
  obtain ⟨z, c, hz⟩ := po.size_ex n D.st r.slot r.gen
  obtain ⟨o, rf, oc, ho⟩ := po.owner_ex n D.st r.slot r.gen
  obtain ⟨f, D', hP⟩ := subP_ex n D z c o r
  refine (subD_o H hI r hr hid h0 h1 hz ho hP).mono ?_
  rintro e w' ⟨rfl, bp', s⟩
  exact ⟨f, D', bp', rfl, SubQ.ways ⟨z, c, o, rf, oc, hz, ho, hP⟩ hI hcap ⟨hr.1, hr.2.1, hr.2.2.1⟩, s⟩
theorem startW (H : St w0 S0 w (DvL a n sz bp D ++ X)) (hI : DvI n sz G D) :
    Calls Tryz.prog 13 #[ptrV a.d] w fun e w' => ∃ B d ids D', e = .returned (.slice B ids.length d) ∧ ids.length ≤ 64 ∧ StS sz ids D D' ∧ StF sz ids D D' ∧ DvI n sz G D' ∧ D'.b = D.b ∧ D'.nx = D.nx ∧ D'.rq = D.rq ∧ D'.opn = D.opn ∧ D'.st = D.st ∧ St w0 S0 w' (DvL a n sz bp D' ++ (X ++ [LisR 3 1 (.slice B ids.length d) ids.length (iv ids)])) := by
  obtain ⟨ids, D', h1, h2, h3, h4, h5, h6, h7, h8⟩ := hI.start
  refine (stD_o H h1 h2).mono ?_
  rintro e w' ⟨B, d, rfl, s⟩
  exact ⟨B, d, ids, D', rfl, h2, h1, h1.facts, h3, h4, h5, h6, h7, h8, s⟩
theorem takeW (H : St w0 S0 w (DvL a n sz bp D ++ X)) (hI : DvI n sz G D) :
    Calls Tryz.prog 120 #[ptrV a.d] w fun e w' => ∃ D' no f d, e = .returned (.tuple #[.int .i64 no, ri.Dsc.v d, .int .i64 f]) ∧ ((D.g.taken = D.g.put ∧ no = 0 ∧ d = ri.dZ ∧ f = 5 ∧ D' = D) ∨ (D.g.taken < D.g.put ∧ no = (D.g.taken : Int) ∧ d = D.g.D D.g.taken ∧ f = 0 ∧ ∃ k st', D.pst (D.g.taken : Int) = some k ∧ k < D.nx ∧ KeepS n D.st st' ∧ ((D.rq k).vo = true → st' = D.st) ∧ D' = D.tkD 0 ⟨D.g.put, D.g.taken + 1, D.g.reaped, D.g.D⟩ k st' ∧ DvI n sz G D')) ∧ St w0 S0 w' (DvL a n sz bp D' ++ X) := by
  have hm := hI.c.gok.m
  have ht := hI.c.gok.t
  have hwf : wfI (D.g.taken : Int) := wf_small (by omega) (by omega)
  by_cases hlt : D.g.taken < D.g.put
  · obtain ⟨k, c, st', h1, h2, h3, h4, h5, h6⟩ := hI.take hlt
    have hP : ri.TakeP D.g (D.g.taken : Int) (D.g.D D.g.taken) 0 ⟨D.g.put, D.g.taken + 1, D.g.reaped, D.g.D⟩ := Or.inr ⟨hlt, rfl, rfl, rfl, rfl⟩
    refine (tkD_o (k := k) (c := c) (st' := st') H hI.c.gok hI.c.pok hP rfl hwf (fun _ => ⟨h1, h2, h3⟩)).mono ?_
    rintro e w' ⟨rfl, s⟩
    exact ⟨_, _, _, _, rfl, Or.inr ⟨hlt, rfl, rfl, rfl, k, st', h1, h2, h5, h4, rfl, h6⟩, s⟩
  · have he : D.g.taken = D.g.put := by omega
    have hP : ri.TakeP D.g 0 ri.dZ 5 D.g := Or.inl ⟨he, rfl, rfl, rfl, rfl⟩
    refine (tkD_o (k := 0) (c := 0) (st' := D.st) H hI.c.gok hI.c.pok hP rfl (wf_small (by omega) (by omega)) (fun e => absurd e (by omega))).mono ?_
    rintro e w' ⟨rfl, s⟩
    exact ⟨D, _, _, _, rfl, Or.inl ⟨he, rfl, rfl, rfl, rfl⟩, by
      have e1 : D.tkD 5 D.g 0 D.st = D := by unfold Dv.tkD; rw [if_neg (by omega)]
      rw [e1] at s; exact s⟩
theorem finW (H : St w0 S0 w (DvL a n sz bp D ++ X)) (hI : DvI n sz G D) {no stt : Int} (bad : Bool) (hno : wfI no) :
    Calls Tryz.prog 139 #[ptrV a.d, .int .i64 no, .int .i64 stt, .bool bad] w fun e w' => ∃ f g' k, e = .returned (.int .i64 f) ∧ ri.FinP D.g no stt f g' ∧ (f = 0 → D.pst no = some k ∧ k < D.nx) ∧ DvI n sz G (D.finD f g' k bad) ∧ St w0 S0 w' (DvL a n sz bp (D.finD f g' k bad) ++ X) := by
  obtain ⟨f, g', hP⟩ := ri.finP_ex D.g no stt
  obtain ⟨h1, k, h2, h3⟩ := hI.fin hP bad
  refine (finD_o (k := k) H hI.c.gok bad hP h1 hno h2).mono ?_
  rintro e w' ⟨rfl, s⟩
  exact ⟨f, g', k, rfl, hP, h2, h3, s⟩
theorem reapW (H : St w0 S0 w (DvL a n sz bp D ++ X)) (hI : DvI n sz G D) :
    Calls Tryz.prog 18 #[ptrV a.d] w fun e w' => ∃ d f g' k q' st', e = .returned (.tuple #[.int .i64 (if f = 0 then d.req else 0), .int .i64 f]) ∧ ri.ReapP D.g d f g' ∧ (f = 0 → D.pst (D.g.reaped : Int) = some k ∧ k < D.nx ∧ d.req = (D.rq k).id ∧ 0 ≤ d.st ∧ d.st ≤ 255) ∧ DvI n sz G (D.rpD f g' k d.st q' st') ∧ KeepS n D.st (D.rpD f g' k d.st q' st').st ∧ St w0 S0 w' (DvL a n sz bp (D.rpD f g' k d.st q' st') ++ X) := by
  obtain ⟨d, f, g', hP⟩ := ri.reapP_ex hI.c.gok
  obtain ⟨h1, h2, k, f2, c, q', st', h3, h4, h5, h6⟩ := hI.reap hP
  have hu := hI.cnu
  have hc := hI.c.cap
  refine (rpD_o (k := k) (f2 := f2) (c := c) (q' := q') (st' := st') H hI.c.gok hI.c.qok hI.c.pok hP h1 h2 (by omega) h3).mono ?_
  rintro e w' ⟨rfl, s⟩
  exact ⟨d, f, g', k, q', st', rfl, hP, fun e => ⟨(h3 e).1, (h3 e).2.1, (h4 e).1, (h4 e).2⟩, h5, h6, s⟩
theorem canW (H : St w0 S0 w (DvL a n sz bp D ++ X)) (hI : DvI n sz G D) {id : Int} (hid : wfI id) :
    Calls Tryz.prog 20 #[ptrV a.d, .int .i64 id] w fun e w' => e = .returned (.int .i64 (outA D.b id)) ∧ ∃ k q' st', (outA D.b id = 0 → D.opn id = some k ∧ k < D.nx ∧ (D.rq k).id = id) ∧ DvI n sz G (D.canD id k q' st') ∧ KeepS n D.st (D.canD id k q' st').st ∧ St w0 S0 w' (DvL a n sz bp (D.canD id k q' st') ++ X) := by
  obtain ⟨k, f, c, q', st', h1, h2, h3⟩ := hI.can id
  have hu := hI.cnu
  have hc := hI.c.cap
  refine (canD_o (k := k) (f := f) (c := c) (q' := q') (st' := st') H hid (by omega) hI.c.qok hI.c.pok h1).mono ?_
  rintro e w' ⟨rfl, s⟩
  exact ⟨rfl, k, q', st', fun e => ⟨(h1 e).1, (h1 e).2.1, (h1 e).2.2.1⟩, h2, h3, s⟩
theorem wrW (H : St w0 S0 w (DvL a n sz bp D ++ X)) (hI : DvI n sz G D) {no at' : Int} {xs : List Int} {A : Option Addr} {cp : Nat} (hx : xs.length ≤ maxLen) (hr : Rds w A xs.length 1 (po.bys xs)) (hno : wfI no) :
    Calls Tryz.prog 127 #[ptrV a.d, .int .i64 no, .int .i64 at', .slice A xs.length cp] w fun e w' => ∃ cw st', e = .returned (.int .i64 cw) ∧ WrP n D no at' xs cw st' ∧ DvI n sz G { D with st := st' } ∧ (∀ i, i < n → (st' i).owner = (D.st i).owner ∧ (st' i).gen = (D.st i).gen ∧ (st' i).bs.length = (D.st i).bs.length ∧ (st' i).refs = (D.st i).refs) ∧ (∀ i, i < n → (D.st i).owner ≠ 3 → (st' i).bs = (D.st i).bs) ∧ St w0 S0 w' (DvL a n sz bp { D with st := st' } ++ X) := by
  obtain ⟨cw, st', hP⟩ := wrP_ex n D no at' xs
  obtain ⟨h1, h2, h3⟩ := hI.wr hP
  refine (wrD_o H hI.c.pok hx hr hno (fun k hk => ?_) hP).mono ?_
  · obtain ⟨m, rfl, -, -⟩ := hI.c.psl no k hk
    have hk := (hI.c.pk m k hk).1
    have g := hI.c.rg k hk
    have g1 := g.fr
    have g2 := g.le
    exact ⟨hk, ⟨by omega, by omega⟩, by omega, by omega⟩
  · rintro e w' ⟨rfl, s⟩
    exact ⟨cw, st', rfl, hP, h1, h2, h3, s⟩
theorem goW (H : St w0 S0 w (DvL a n sz bp D ++ X)) (hI : DvI n sz G D) {u : Int} (hu : 0 ≤ u) :
    Calls Tryz.prog 22 #[ptrV a.d, .int .u64 u] w fun e w' => ∃ B m d o D', e = .returned (.tuple #[.slice B m d, .int .i64 (goA D.b.now u)]) ∧ OutP D.b u o ∧ o.length = m ∧ m ≤ 91000 ∧ DvI n sz G D' ∧ GoneP n (D.b.gon u) o { D with b := D.b.gon u } D' ∧ (goA D.b.now u = 0 → o.length + cntO D'.b.op = cntO D.b.op + D.b.un.length ∧ D'.b.un = []) ∧ (goA D.b.now u ≠ 0 → o = []) ∧ St w0 S0 w' (DvL a n sz bp D' ++ (X ++ [LisR 82 3 (.slice B m d) m (fvs o)])) := by
  classical
  have hc := hI.c.cap
  have hn := hI.cnu
  have hh : D.b.un.length ≤ 90000 := by omega
  refine (goD_o (W := fun o => if h : OutP D.b u o then Classical.choose (hI.go hu h) else D) H hu hh (fun o ho => ?_)).mono ?_
  · show GoS n (D.b.gon u) o { D with b := D.b.gon u } (if h : OutP D.b u o then Classical.choose (hI.go hu h) else D)
    rw [dif_pos ho]
    exact (Classical.choose_spec (hI.go hu ho)).1 o ho
  · rintro e w' ⟨B, m, d, o, rfl, ho, hl, hm, s⟩
    have sp := Classical.choose_spec (hI.go hu ho)
    rw [dif_pos ho] at s
    exact ⟨B, m, d, o, _, rfl, ho, hl, hm, sp.2.1, sp.2.2.1, sp.2.2.2.1, sp.2.2.2.2, s⟩
end
end
section
set_option linter.unusedVariables false
set_option maxRecDepth 100000
set_option maxHeartbeats 1000000
/-- How far the one request is. -/
structure OneF (n sz : Nat) (G : Int) (st0 : Nat → po.Buf) (r : Rq) (c now : Int) (D : Dv) (put taken reaped : Nat) (fi vo bad : Bool) (stt : Int) (un : List Ft) : Prop where
  I : DvI n sz G D
  nx : D.nx = 1
  same : (D.rq 0).same r
  hvo : (D.rq 0).vo = vo
  hput : D.g.put = put
  htaken : D.g.taken = taken
  hreaped : D.g.reaped = reaped
  dn : put = 1 → (D.g.D 0).dn = fi
  sb : put = 1 → fi = true → (D.g.D 0).st = stt ∧ (D.rq 0).bd = bad
  hun : D.b.un = un
  hnow : D.b.now = now
  hcost : D.b.cost = c
  K : KeepS n st0 D.st
section
variable {n sz : Nat} {G : Int} {st0 st : Nat → po.Buf} {r : Rq} {c now : Int} {D D' : Dv} {put taken reaped : Nat} {fi vo bad : Bool} {stt f : Int} {un : List Ft} {ids : List Int} {i k put' : Nat}
theorem cnt0_none {op : Nat → Option (Int × Int)} (U : UqO op) (h : cntO op = 0) (k : Nat) : op k = none := by
  cases e : op k with
  | none => rfl
  | some x => have := cntO_del (U.lt k x e) e; omega
/-- What the time tells when none is open. -/
theorem DvI.idle (h : DvI n sz G D) (hc : cntO D.b.op = 0) {u : Int} (hg : goA D.b.now u = 0) {o : List Ft} (ho : OutP D.b u o) : o = D.b.un := by
  unfold OutP at ho
  rw [if_pos hg] at ho
  obtain ⟨l, hl, rfl⟩ := ho
  have : l = [] := late_none hl fun k x hx => by rw [cnt0_none h.bok.U hc k] at hx; cases hx
  rw [this]; simp [fLate]
theorem OneF.opn (h : OneF n sz G st0 r c now D put taken reaped fi false bad stt un) : D.opn r.id = some 0 := (h.I.c.opn _ 0).2 ⟨by rw [h.nx]; omega, h.same.id, h.hvo⟩
theorem OneF.opn0 (h : OneF n sz G st0 r c now D put taken reaped fi true bad stt un) (i : Int) : D.opn i = none := by
  cases e : D.opn i with
  | none => rfl
  | some k =>
    obtain ⟨h1, h2, h3⟩ := (h.I.c.opn i k).1 e
    rw [h.nx] at h1
    obtain rfl : k = 0 := by omega
    rw [h.hvo] at h3; cases h3
theorem OneF.cnt0 (h : OneF n sz G st0 r c now D put taken reaped fi true bad stt un) : cntO D.b.op = 0 := by
  rcases Nat.eq_zero_or_pos (cntO D.b.op) with e | e
  · exact e
  · obtain ⟨k, hk, hp⟩ : ∃ k, k < 64 ∧ (D.b.op k).isSome = true := by
      by_cases hh : ∃ k, k < 64 ∧ (D.b.op k).isSome = true
      · exact hh
      · exfalso
        have : D.b.op = fun _ => none := by
          funext k
          cases e : D.b.op k with
          | none => rfl
          | some x => exact absurd ⟨k, h.I.bok.U.lt k x e, by rw [e]; rfl⟩ hh
        rw [this] at e
        have e2 : cntO (fun _ => none) = 0 := by kernel_rfl
        omega
    obtain ⟨x, hx⟩ := Option.isSome_iff_exists.1 hp
    obtain ⟨k2, h2, -⟩ := (h.I.lnk x.1 x.2).1 ⟨k, hx⟩
    rw [h.opn0] at h2; cases h2
theorem OneF.owner (h : OneF n sz G st0 r c now D put taken reaped fi false bad stt un) (hi : i < n) (hs : r.slot = (i : Int)) (hr : reaped = 0) (hp : put ≤ 1) (ht : taken ≤ put) : (D.st i).owner = if taken = 1 then 3 else 2 := by
  have h0 : 0 < D.nx := by rw [h.nx]; omega
  obtain ⟨j, hj, e1, e2, -, -⟩ := h.I.c.own 0 h0 h.hvo
  obtain rfl : j = i := by have := h.same.slot; omega
  rw [e2]
  unfold ownO
  by_cases hp1 : put = 1
  · obtain ⟨k, hk⟩ := h.I.c.pex 0 (by rw [h.hreaped]; omega) (by rw [h.hput]; omega)
    obtain ⟨k1, k2, -⟩ := h.I.c.pk 0 k hk
    rw [h.nx] at k1
    obtain rfl : k = 0 := by omega
    rw [h.htaken] at k2
    by_cases e : taken = 1
    · rw [if_pos e, if_pos (k2.2 (by omega))]
    · rw [if_neg e, if_neg (fun x => e (by have := k2.1 x; omega))]
  · have hpz : D.g.put = 0 := by rw [h.hput]; omega
    have := (h.I.c.tkp 0 h0 h.hvo (fun no e => by obtain ⟨m, -, a, b⟩ := h.I.c.psl no 0 e; omega)).1
    rw [this, if_neg Bool.false_ne_true, if_neg (show ¬ taken = 1 by omega)]
theorem OneF.task (h : OneF n sz G st0 r c now D put taken reaped fi true bad stt un) (hi : i < n) (h0 : (st0 i).owner ≠ 0) : (D.st i).owner = 1 :=
  h.I.c.task hi (fun e => h0 ((h.K i hi).2.2.1.1 e)) fun k hk hv => by
    rw [h.nx] at hk
    obtain rfl : k = 0 := by omega
    rw [h.hvo] at hv; cases hv
theorem OneF.pst0 (h : OneF n sz G st0 r c now D 1 taken 0 fi vo bad stt un) : D.pst 0 = some 0 := by
  obtain ⟨k, hk⟩ := h.I.c.pex 0 (by rw [h.hreaped]; omega) (by rw [h.hput]; omega)
  have k1 := (h.I.c.pk 0 k hk).1
  rw [h.nx] at k1
  obtain rfl : k = 0 := by omega
  exact hk
theorem OneF.is0 (h : OneF n sz G st0 r c now D 1 taken 0 fi vo bad stt un) : isR (D.g.D 0) (D.rq 0) ∧ ((D.rq 0).tk = true ↔ 0 < D.g.taken) := ⟨(h.I.c.pk 0 0 h.pst0).2.2, (h.I.c.pk 0 0 h.pst0).2.1⟩
/-- A request that is let in where none was. -/
theorem one_sub (hI : DvI n sz G D) (hb : D = Dv.new st0 c) (hi : i < n) (hs : r.slot = (i : Int)) (hg : r.gen = (st0 i).gen) (ho : (st0 i).owner = 1) (hm : mayR ((st0 i).bs.length : Nat) 0 r) (hr : r.tk = false ∧ r.fi = false ∧ r.vo = false) (hd : c < r.dead) :
    ∃ D', SubP n D ((st0 i).bs.length : Nat) 0 1 r 0 D' ∧ OneF n sz G st0 r c 0 D' 0 0 0 false false bad stt [] := by
  subst hb
  have e2 : cntO (Dv.new st0 c).b.op = 0 := by show cntO (fun _ => none) = 0; kernel_rfl
  obtain ⟨hA, st', e, hP, hI', hK⟩ := hI.sub_ok (r := r) (by show 0 + 1 ≤ 80000; omega) hi hs hg ho hm hr (fun ⟨i, k, _, h, _⟩ => by cases h) rfl (by show 0 < 64; omega) (by omega) (by show 0 + c < _; omega)
  obtain ⟨-, c2, c3, c4⟩ := cnt_opn hA
  refine ⟨_, hP, ⟨hI', rfl, ?_, ?_, rfl, rfl, rfl, fun e => absurd e (by omega), fun e => absurd e (by omega), c2, c3, c4, hK⟩⟩
  · show (updR (Dv.new st0 c).rq 0 r 0).same r; rw [updR_self]; exact Rq.same.rfl' _
  · show (updR (Dv.new st0 c).rq 0 r 0).vo = false; rw [updR_self]; exact hr.2.2
/-- It is started. -/
theorem OneF.start (h : OneF n sz G st0 r c now D 0 0 0 fi false bad stt un) (hI : DvI n sz G D') (hF : StF sz ids D D') (eb : D'.b = D.b) (en : D'.nx = D.nx) (er : D'.rq = D.rq) (es : D'.st = D.st) :
    ids = [r.id] ∧ OneF n sz G st0 r c now D' 1 0 0 false false bad stt un := by
  have h0 : 0 < D.nx := by rw [h.nx]; omega
  have hq : ∀ x, x ∈ D.q.l ↔ x = (D.rq 0).wt := fun x => by
    rw [h.I.c.q x]
    constructor
    · rintro ⟨k, h1, -, -, e⟩; rw [h.nx] at h1; obtain rfl : k = 0 := by omega
      exact e
    · rintro rfl; exact ⟨0, h0, h.hvo, fun no e => by obtain ⟨m, -, a, b⟩ := h.I.c.psl no 0 e; rw [h.hput] at b; omega, rfl⟩
  have hl : D.q.l.length = 1 := by
    have hmem := (hq _).2 rfl
    have hle : D.q.l.length ≤ 1 := by
      have := h.I.c.cnt; rw [h.hput, h.nx] at this; omega
    have := List.length_pos_of_mem hmem
    omega
  have sz1 := h.I.c.gok.n0
  have e1 := hF.put
  have e2 := hF.len
  rw [h.hput] at e1
  have hids : ids.length = 1 := by
    rcases hF.full with e | e
    · rw [hF.reaped, h.hreaped] at e; omega
    · rw [e] at e2; simp at e2; omega
  obtain ⟨x, rfl⟩ : ∃ x, ids = [x] := List.length_eq_one_iff.1 hids
  obtain ⟨y, hy, e3⟩ := hF.mem x (List.mem_singleton.2 rfl)
  rw [(hq y).1 hy] at e3
  replace e3 : (D.rq 0).id = x := e3
  have nw := hF.new 0 x rfl
  rw [h.hput] at nw
  refine ⟨by rw [← e3, h.same.id], ⟨hI, en.trans h.nx, by rw [er]; exact h.same, by rw [er]; exact h.hvo, by omega, hF.taken.trans h.htaken, hF.reaped.trans h.hreaped, fun _ => nw.2, fun _ e => (by cases e), by rw [eb]; exact h.hun, by rw [eb]; exact h.hnow, by rw [eb]; exact h.hcost, by rw [es]; exact h.K⟩⟩
/-- It is taken. -/
theorem OneF.take (h : OneF n sz G st0 r c now D 1 0 0 false vo bad stt un) {st' : Nat → po.Buf} (hps : D.pst (D.g.taken : Int) = some k) (hK : KeepS n D.st st') (hI : DvI n sz G (D.tkD 0 ⟨D.g.put, D.g.taken + 1, D.g.reaped, D.g.D⟩ k st')) (hvo : (D.rq k).vo = true → st' = D.st) :
    OneF n sz G st0 r c now (D.tkD 0 ⟨D.g.put, D.g.taken + 1, D.g.reaped, D.g.D⟩ k st') 1 1 0 false vo bad stt un := by
  rw [h.htaken] at hps
  obtain rfl : k = 0 := by have := h.pst0; rw [show ((0 : Nat) : Int) = 0 from rfl] at hps; rw [hps] at this; exact Option.some.inj this
  have est : (if (D.rq 0).vo then D.st else st') = st' := by cases hv : (D.rq 0).vo with | true => exact (hvo hv).symm | false => rfl
  have eD : D.tkD 0 ⟨D.g.put, D.g.taken + 1, D.g.reaped, D.g.D⟩ 0 st' = { D with g := ⟨D.g.put, D.g.taken + 1, D.g.reaped, D.g.D⟩, rq := updR D.rq 0 { D.rq 0 with tk := true }, st := st' } := by
    unfold Dv.tkD; rw [if_pos rfl, est]
  rw [eD] at hI ⊢
  refine ⟨hI, h.nx, ?_, ?_, h.hput, by show D.g.taken + 1 = 1; rw [h.htaken], h.hreaped, h.dn, fun a e => (by cases e), h.hun, h.hnow, h.hcost, h.K.trans hK⟩
  · show (updR D.rq 0 { D.rq 0 with tk := true } 0).same r; rw [updR_self]; exact ⟨h.same.id, h.same.op, h.same.dead, h.same.track, h.same.slot, h.same.gen, h.same.frm, h.same.len⟩
  · show (updR D.rq 0 { D.rq 0 with tk := true } 0).vo = vo; rw [updR_self]; exact h.hvo
/-- It is finished. -/
theorem OneF.fin (h : OneF n sz G st0 r c now D 1 1 0 false vo bad stt un) {z : Int} {g' : ri.RSt} (bd : Bool) (hz : 0 ≤ z ∧ z ≤ 255) (hP : ri.FinP D.g 0 z f g') (hk : f = 0 → D.pst 0 = some k ∧ k < D.nx) (hI : DvI n sz G (D.finD f g' k bd)) :
    f = 0 ∧ OneF n sz G st0 r c now (D.finD f g' k bd) 1 1 0 true vo bd z un := by
  rcases hP with ⟨e, -, -⟩ | ⟨-, e, -, -⟩ | ⟨-, h1, h2, h3, rfl, rfl⟩
  · omega
  · rw [h.hreaped, h.htaken] at e
    rcases e with e | e | e
    · simp at e
    · simp at e
    · rw [show (0 : Int).toNat = 0 from rfl, h.dn rfl] at e; cases e
  refine ⟨rfl, ?_⟩
  obtain rfl : k = 0 := by have := h.pst0; rw [(hk rfl).1] at this; exact Option.some.inj this
  unfold Dv.finD at hI ⊢
  rw [if_pos rfl] at hI ⊢
  refine ⟨hI, h.nx, ?_, ?_, h.hput, h.htaken, h.hreaped, fun _ => ?_, fun _ _ => ⟨?_, ?_⟩, h.hun, h.hnow, h.hcost, h.K⟩
  · show (updR D.rq 0 { D.rq 0 with fi := true, bd := bd } 0).same r; rw [updR_self]; exact ⟨h.same.id, h.same.op, h.same.dead, h.same.track, h.same.slot, h.same.gen, h.same.frm, h.same.len⟩
  · show (updR D.rq 0 { D.rq 0 with fi := true, bd := bd } 0).vo = vo; rw [updR_self]; exact h.hvo
  · show (ri.setD D.g.D (0 : Int).toNat ((D.g.D (0 : Int).toNat).fin z) 0).dn = true; rw [show ri.setD D.g.D (0 : Int).toNat ((D.g.D (0 : Int).toNat).fin z) 0 = (D.g.D (0 : Int).toNat).fin z from if_pos rfl]; rfl
  · show (ri.setD D.g.D (0 : Int).toNat ((D.g.D (0 : Int).toNat).fin z) 0).st = z; rw [show ri.setD D.g.D (0 : Int).toNat ((D.g.D (0 : Int).toNat).fin z) 0 = (D.g.D (0 : Int).toNat).fin z from if_pos rfl]; rfl
  · show (updR D.rq 0 { D.rq 0 with fi := true, bd := bd } 0).bd = bd; rw [updR_self]
theorem out_un {fx : Ft} (h : DvI n sz G D) (hk : k < D.nx) (vk : (D.rq k).vo = false) (hf : fx.id = (D.rq k).id) : (D.b.out fx).un = D.b.un ++ [fx] ∧ (D.b.out fx).now = D.b.now ∧ (D.b.out fx).cost = D.b.cost ∧ cntO (D.b.out fx).op + 1 = cntO D.b.op := by
  obtain ⟨j, hj⟩ := h.slotK hk vk
  rw [← hf] at hj
  obtain ⟨c1, c2, c3, c4⟩ := cnt_out hj
  exact ⟨c2, c3, c4, c1⟩
/-- It leaves the ring. -/
theorem OneF.reap (h : OneF n sz G st0 r c now D 1 1 0 true vo bad stt un) {d : ri.Dsc} {g' : ri.RSt} {q' : od.OSt} {st' : Nat → po.Buf} (hP : ri.ReapP D.g d f g') (hk : f = 0 → D.pst (D.g.reaped : Int) = some k ∧ k < D.nx ∧ d.req = (D.rq k).id ∧ 0 ≤ d.st ∧ d.st ≤ 255) (hI : DvI n sz G (D.rpD f g' k d.st q' st')) (hK : KeepS n D.st (D.rpD f g' k d.st q' st').st) :
    f = 0 ∧ d.req = r.id ∧ OneF n sz G st0 r c now (D.rpD f g' k d.st q' st') 1 1 1 true true bad stt (if vo then un else un ++ [if bad then ⟨r.id, 2, 2⟩ else ⟨r.id, 1, stt⟩]) := by
  rcases hP with ⟨e, -, -, -⟩ | ⟨-, e, -, -, -⟩ | ⟨-, -, rfl, rfl, rfl⟩
  · rw [h.hreaped, h.hput] at e; omega
  · rw [h.hreaped, h.dn rfl] at e; cases e
  obtain ⟨k1, k2, k3, k4⟩ := hk rfl
  rw [h.hreaped] at k1
  obtain rfl : k = 0 := by have := h.pst0; rw [show ((0 : Nat) : Int) = 0 from rfl] at k1; rw [k1] at this; exact Option.some.inj this
  refine ⟨rfl, k3.trans h.same.id, ?_⟩
  obtain ⟨s1, s2⟩ := h.sb rfl rfl
  have er : (D.g.D D.g.reaped).st = stt := by rw [h.hreaped]; exact s1
  unfold Dv.rpD at hI hK ⊢
  rw [if_pos rfl] at hI hK ⊢
  cases vo with
  | true =>
    rw [if_pos h.hvo] at hI hK ⊢
    rw [if_pos rfl]
    exact ⟨hI, h.nx, h.same, h.hvo, h.hput, h.htaken, by show D.g.reaped + 1 = 1; rw [h.hreaped], h.dn, h.sb, h.hun, h.hnow, h.hcost, h.K.trans hK⟩
  | false =>
    rw [if_neg (by rw [h.hvo]; exact Bool.false_ne_true)] at hI hK ⊢
    rw [if_neg Bool.false_ne_true]
    have ea : D.b.ans (D.rq 0).id (D.g.D D.g.reaped).st (D.rq 0).bd = D.b.out (if bad then ⟨(D.rq 0).id, 2, 2⟩ else ⟨(D.rq 0).id, 1, stt⟩) := by
      unfold Bk.ans; rw [if_neg (by omega), er, s2]
    obtain ⟨o1, o2, o3, -⟩ := out_un (fx := if bad then ⟨(D.rq 0).id, 2, 2⟩ else ⟨(D.rq 0).id, 1, stt⟩) h.I k2 h.hvo (by cases bad <;> rfl)
    refine ⟨hI, h.nx, ?_, ?_, h.hput, h.htaken, by show D.g.reaped + 1 = 1; rw [h.hreaped], h.dn, fun a b => ⟨s1, ?_⟩, ?_, ?_, ?_, h.K.trans hK⟩
    · show (updR D.rq 0 { D.rq 0 with vo := true } 0).same r; rw [updR_self]; exact ⟨h.same.id, h.same.op, h.same.dead, h.same.track, h.same.slot, h.same.gen, h.same.frm, h.same.len⟩
    · show (updR D.rq 0 { D.rq 0 with vo := true } 0).vo = true; rw [updR_self]
    · show (updR D.rq 0 { D.rq 0 with vo := true } 0).bd = bad; rw [updR_self]; exact s2
    · show (D.b.ans _ _ _).un = _; rw [ea, o1, h.hun, h.same.id]
    · show (D.b.ans _ _ _).now = _; rw [ea, o2, h.hnow]
    · show (D.b.ans _ _ _).cost = _; rw [ea, o3, h.hcost]
/-- It is called off. -/
theorem OneF.can (h : OneF n sz G st0 r c now D put taken reaped fi false bad stt un) : outA D.b r.id = 0 := by
  obtain ⟨j, hj⟩ := h.I.slotK (k := 0) (by rw [h.nx]; omega) h.hvo
  rw [h.same.id] at hj
  unfold outA; rw [hj]; rfl
theorem OneF.can6 (h : OneF n sz G st0 r c now D put taken reaped fi true bad stt un) (i : Int) : outA D.b i = 6 := by
  unfold outA
  cases e : slotO D.b.op i with
  | none => rfl
  | some j => obtain ⟨k, hk⟩ := (h.I.slot i).1 (by rw [e]; rfl); rw [h.opn0] at hk; cases hk
theorem OneF.cancel (h : OneF n sz G st0 r c now D put taken reaped fi false bad stt un) {q' : od.OSt} {st' : Nat → po.Buf} (hk : outA D.b r.id = 0 → D.opn r.id = some k ∧ k < D.nx ∧ (D.rq k).id = r.id) (hI : DvI n sz G (D.canD r.id k q' st')) (hK : KeepS n D.st (D.canD r.id k q' st').st) :
    OneF n sz G st0 r c now (D.canD r.id k q' st') put taken reaped fi true bad stt (un ++ [⟨r.id, 2, 3⟩]) := by
  obtain ⟨k1, k2, k3⟩ := hk h.can
  obtain rfl : k = 0 := by rw [h.opn] at k1; exact (Option.some.inj k1).symm
  unfold Dv.canD at hI hK ⊢
  rw [if_pos h.can] at hI hK ⊢
  obtain ⟨o1, o2, o3, -⟩ := out_un (fx := ⟨r.id, 2, 3⟩) h.I k2 h.hvo h.same.id.symm
  refine ⟨hI, h.nx, ?_, ?_, h.hput, h.htaken, h.hreaped, h.dn, fun a b => ⟨(h.sb a b).1, ?_⟩, ?_, ?_, ?_, h.K.trans hK⟩
  · show (updR D.rq 0 { D.rq 0 with vo := true } 0).same r; rw [updR_self]; exact ⟨h.same.id, h.same.op, h.same.dead, h.same.track, h.same.slot, h.same.gen, h.same.frm, h.same.len⟩
  · show (updR D.rq 0 { D.rq 0 with vo := true } 0).vo = true; rw [updR_self]
  · show (updR D.rq 0 { D.rq 0 with vo := true } 0).bd = bad; rw [updR_self]; exact (h.sb a b).2
  · show (D.b.out _).un = _; rw [o1, h.hun]
  · show (D.b.out _).now = _; rw [o2, h.hnow]
  · show (D.b.out _).cost = _; rw [o3, h.hcost]
theorem OneF.can_same (h : OneF n sz G st0 r c now D put taken reaped fi true bad stt un) (i : Int) (k : Nat) (q' : od.OSt) (st' : Nat → po.Buf) : D.canD i k q' st' = D := by
  unfold Dv.canD; rw [if_neg (by rw [h.can6]; omega)]
/-- The time goes on, when it has come out. -/
theorem OneF.go (h : OneF n sz G st0 r c now D put taken reaped fi true bad stt un) {u : Int} (hu : now ≤ u) (hu2 : u < 4611686018427387904) {o : List Ft} (ho : OutP D.b u o) (hI : DvI n sz G D') (hG : GoneP n (D.b.gon u) o { D with b := D.b.gon u } D') :
    goA D.b.now u = 0 ∧ o = un ∧ OneF n sz G st0 r c u D' put taken reaped fi true bad stt [] := by
  have hg : goA D.b.now u = 0 := by unfold goA; rw [if_pos hu2, if_neg (by rw [h.hnow]; omega)]
  have hb : D'.b = D.b.gon u := hG.b
  have eg : (D.b.gon u).un = [] ∧ (D.b.gon u).now = u ∧ (D.b.gon u).cost = D.b.cost := by unfold Bk.gon; rw [if_pos hg]; exact ⟨rfl, rfl, rfl⟩
  obtain ⟨r1, -, -, r4⟩ := hG.rq 0
  have gg : D'.g = D.g := hG.g
  refine ⟨hg, (h.I.idle h.cnt0 hg ho).trans h.hun, ⟨hI, hG.nx.trans h.nx, ?_, ?_, by rw [gg]; exact h.hput, by rw [gg]; exact h.htaken, by rw [gg]; exact h.hreaped, by rw [gg]; exact h.dn, fun a b => ⟨by rw [gg]; exact (h.sb a b).1, r4.trans (h.sb a b).2⟩, by rw [hb]; exact eg.1, by rw [hb]; exact eg.2.1, by rw [hb, eg.2.2]; exact h.hcost, h.K.trans hG.st⟩⟩
  · exact ⟨r1.id.trans h.same.id, r1.op.trans h.same.op, r1.dead.trans h.same.dead, r1.track.trans h.same.track, r1.slot.trans h.same.slot, r1.gen.trans h.same.gen, r1.frm.trans h.same.frm, r1.len.trans h.same.len⟩
  · cases e : (D'.rq 0).vo with
    | true => rfl
    | false => have := hG.vo 0 e; rw [show (D.rq 0).vo = true from h.hvo] at this; cases this
/-- What the pool tells of its buffer. -/
theorem OneF.tells (h : OneF n sz G st0 r c now D put taken reaped fi vo bad stt un) (hi : i < n) (h0 : (st0 i).owner ≠ 0) : po.SizeP n D.st (i : Int) (st0 i).gen ((st0 i).bs.length : Nat) 0 ∧ po.OwnerP n D.st (i : Int) (st0 i).gen (D.st i).owner (D.st i).refs 0 := by
  obtain ⟨k1, k2, k3, -⟩ := h.K i hi
  exact ⟨Or.inr ⟨i, hi, rfl, fun e => h0 (k3.1 e), k2, by rw [k1], rfl⟩, Or.inr ⟨i, hi, rfl, fun e => h0 (k3.1 e), k2, rfl, rfl, rfl⟩⟩
theorem OneF.reads (h : OneF n sz G st0 r c now D put taken reaped fi vo bad stt un) (hi : i < n) (h0 : (st0 i).owner ≠ 0) {a m : Int} (hf : po.fits (st0 i).bs.length a m) : po.ReadP n D.st (i : Int) (st0 i).gen a m (((st0 i).bs.drop a.toNat).take m.toNat) 0 := by
  obtain ⟨k1, k2, k3, -⟩ := h.K i hi
  exact Or.inr ⟨i, hi, rfl, fun e => h0 (k3.1 e), k2, Or.inr ⟨by rw [k1]; exact hf, rfl, by rw [k1]⟩⟩
/-- It may come again, or may not yet. -/
theorem OneF.again (h : OneF n sz G st0 r c now D put put' put' fi true bad stt un) (hpp : put = put') (hi : i < n) (hs : r.slot = (i : Int)) (hg : r.gen = (st0 i).gen) (h0 : (st0 i).owner ≠ 0) (hm : mayR ((st0 i).bs.length : Nat) 0 r) (hr : r.tk = false ∧ r.fi = false ∧ r.vo = false) (hd : now + c < r.dead) :
    ∃ D', SubP n D ((st0 i).bs.length : Nat) 0 (D.st i).owner r 0 D' := by
  have ho := h.task hi h0
  obtain ⟨k1, k2, k3, -⟩ := h.K i hi
  obtain ⟨-, st', -, hP, -, -⟩ := h.I.sub_ok (r := r) (by rw [h.nx]; omega) hi hs (by rw [k2]; exact hg) ho (by rw [k1]; exact hm) hr (fun ⟨no, k, _, hp, _⟩ => by
    obtain ⟨m, -, a, b⟩ := h.I.c.psl no k hp
    rw [h.hreaped] at a; rw [h.hput] at b; omega) (h.opn0 _) (by have := h.I.c.cnt; rw [h.nx] at this; omega) (by rw [h.cnt0]; omega) (by rw [h.hnow, h.hcost]; exact hd)
  rw [k1] at hP
  rw [ho]
  exact ⟨_, hP⟩
theorem OneF.exists_ (h : OneF n sz G st0 r c now D 1 taken 0 fi true bad stt un) (hi : i < n) (h0 : (st0 i).owner ≠ 0) (hm : mayR ((st0 i).bs.length : Nat) 0 r) : SubP n D ((st0 i).bs.length : Nat) 0 (D.st i).owner r 7 D :=
  Or.inr (Or.inr (Or.inl ⟨hm, h.task hi h0, ⟨0, 0, wf_small (by omega) (by omega), h.pst0, h.same.id⟩, rfl, rfl⟩))
/-- What was written. -/
def wrS (st0 : Nat → po.Buf) (i a : Nat) (xs : List Int) : Nat → po.Buf := po.updB st0 i { st0 i with bs := (st0 i).bs.take a ++ (xs ++ (st0 i).bs.drop (a + xs.length)) }
theorem OneF.write (h : OneF n sz G st0 r c now D 1 1 0 false false bad stt un) (hi : i < n) (hs : r.slot = (i : Int)) {xs : List Int} {cw at' : Int} {st' : Nat → po.Buf} (hP : WrP n D 0 at' xs cw st') (hI : DvI n sz G { D with st := st' }) :
    (inPc r at' xs.length → cw = 0 ∧ OneF n sz G (wrS st0 i (r.frm + at').toNat xs) r c now { D with st := st' } 1 1 0 false false bad stt un) ∧ (¬ inPc r at' xs.length → cw = 1 ∧ OneF n sz G st0 r c now { D with st := st' } 1 1 0 false false bad stt un) := by
  have is := h.is0
  have tk : (D.rq 0).tk = true := is.2.2 (by rw [h.htaken]; omega)
  have fi : (D.rq 0).fi = false := by rw [← is.1.dn]; exact h.dn rfl
  have mw : mayWr D 0 0 := ⟨h.pst0, tk, fi, h.hvo⟩
  have ho := h.owner hi hs rfl (by omega) (by omega)
  rw [if_pos rfl] at ho
  have iff : inPc (D.rq 0) at' xs.length ↔ inPc r at' xs.length := by unfold inPc; rw [h.same.len]
  have base : ∀ st0', KeepS n st0' st' → OneF n sz G st0' r c now { D with st := st' } 1 1 0 false false bad stt un := fun st0' hK => ⟨hI, h.nx, h.same, h.hvo, h.hput, h.htaken, h.hreaped, h.dn, h.sb, h.hun, h.hnow, h.hcost, hK⟩
  rcases hP with ⟨hn, -, -⟩ | ⟨k, hk, hh⟩
  · exact absurd mw (hn 0)
  obtain rfl : k = 0 := by have := hk.1; rw [h.pst0] at this; exact (Option.some.inj this).symm
  rcases hh with ⟨hn, rfl, rfl⟩ | ⟨hy, hv⟩
  · exact ⟨fun e => absurd (iff.2 e) hn, fun _ => ⟨rfl, base st0 h.K⟩⟩
  · refine ⟨fun e => ?_, fun e => absurd (iff.1 hy) e⟩
    obtain ⟨j, hj, e1, e2, e3, e4⟩ := h.I.c.own 0 (by rw [h.nx]; omega) h.hvo
    obtain rfl : j = i := by have := h.same.slot; omega
    have hgood := (h.I.c.rg 0 (by rw [h.nx]; omega)).fr
    obtain ⟨p1, p2, p3⟩ := hy
    rcases hv with ⟨hn, -, -⟩ | ⟨j', b', hj', f1, f2, f3, hB, rfl⟩
    · exact absurd ⟨⟨by omega, by omega⟩, by rw [e1, Int.toNat_natCast, ho]; omega, by rw [e1, Int.toNat_natCast]; exact e3⟩ hn
    · obtain rfl : j' = j := by omega
      rcases hB with ⟨hw, -, -⟩ | ⟨-, hne, -, -⟩ | ⟨-, -, hnf, -, -⟩ | ⟨-, -, hf, rfl, rfl⟩
      · exact absurd ⟨by omega, by omega⟩ hw
      · exact absurd ho hne
      · exact absurd ⟨by omega, by omega, by omega, by omega⟩ hnf
      · refine ⟨rfl, base _ ?_⟩
        have ef : (D.rq 0).frm = r.frm := h.same.frm
        intro m hm
        obtain ⟨k1, k2, k3, k4⟩ := h.K m hm
        unfold wrS
        by_cases em : m = j'
        · subst em
          rw [po.updB_self, po.updB_self]
          exact ⟨by show (D.st m).bs.take _ ++ _ = _; rw [k1, ef], k2, k3, k4⟩
        · rw [po.updB_ne _ _ em, po.updB_ne _ _ em]; exact ⟨k1, k2, k3, k4⟩
end
end
end Go.Proofs.YtdjhpdacglojaaaGreat
