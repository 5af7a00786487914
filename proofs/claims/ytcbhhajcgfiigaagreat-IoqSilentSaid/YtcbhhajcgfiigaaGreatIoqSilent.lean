/-
  For every size, row of buffers and number of takes IoqSilent answers true, and changes nothing: a device that never answers, or answers late, leaves each request aborted by its time; what it does then comes to nothing, and another request may use the buffer. No condition.
-/
import Derived.Test.YtcbhhajcgfiigaaGreatRows
import Derived.Test.YtcbhhajcgfiigaaGreatFr
import Derived.Test.YtcbhhajcgfiigaaGreatIoqW
namespace Go.Proofs.YtcbhhajcgfiigaaGreat.ioqSilent
open Go.ChangeShapes Go.WideShapes Go.ChangeAt Go.RowKit
set_option linter.unusedVariables false
theorem own : ownKnob Tryz.prog.godebug = none := by kernel_rfl
theorem laid : laidOutB Tryz.prog = true := by kernel_rfl
set_option maxRecDepth 100000
set_option maxHeartbeats 8000000
def rS (i s : Int) : Rq := ⟨i, 0, 30, 0, s, 1, 0, 2, false, false, false, false⟩
def rE (i : Nat) : Rq := ⟨50 + (i : Int), 0, 60, 0, (i : Int), 1, 0, 1, false, false, false, false⟩
/-- While requests come. -/
structure SilA (sz i n : Nat) (D : Dv) : Prop where
  I : DvI 5 sz 1 D
  nx : D.nx = n
  ni : n ≤ i
  rq : ∀ k, k < n → 0 ≤ (D.rq k).id ∧ (D.rq k).id < 20 ∧ (D.rq k).dead = 30
  put : D.g.put = 0
  un : D.b.un = []
  cn : cntO D.b.op = n
  b0 : D.b.now = 0
  b1 : D.b.cost = 5
  K : KeepS 5 (stG 4) D.st
theorem silA_new {sz : Nat} (hs : 1 ≤ sz ∧ sz ≤ 64) : SilA sz 0 0 (Dv.new (stG 4) 5) :=
  ⟨newI hs rfl, rfl, Nat.le_refl _, fun j h => absurd h (Nat.not_lt_zero j), rfl, rfl, by show cntO (fun _ => none) = 0; kernel_rfl, rfl, rfl, KeepS.refl _ _⟩
theorem silA_sub {sz i n : Nat} {D D' : Dv} {s f : Int} (h : SilA sz i n D) (hi : i < 20) (hh : (f ≠ 0 ∧ D' = D) ∨ (f = 0 ∧ opnA D.b (rS i s).id (rS i s).dead = 0 ∧ ¬ D.posted (rS i s).id ∧ ∃ st', D' = Dv.newR { D with q := { D.q with l := D.q.l ++ [(rS i s).wt] }, b := D.b.opn (rS i s).id (rS i s).dead, st := st' } (rS i s).id (rS i s) ∧ KeepS 5 D.st st' ∧ DvI 5 sz 1 D')) :
    (f ≠ 0 ∧ SilA sz (i + 1) n D') ∨ (f = 0 ∧ SilA sz (i + 1) (n + 1) D') := by
  rcases hh with ⟨hf, rfl⟩ | ⟨hf, hA, -, st', rfl, hK, hI⟩
  · exact Or.inl ⟨hf, ⟨h.I, h.nx, by have := h.ni; omega, h.rq, h.put, h.un, h.cn, h.b0, h.b1, h.K⟩⟩
  · obtain ⟨c1, c2, c3, c4⟩ := cnt_opn hA
    refine Or.inr ⟨hf, ⟨hI, by show D.nx + 1 = _; rw [h.nx], by have := h.ni; omega, fun k hk => ?_, h.put, c2.trans h.un, by show cntO (D.b.opn _ _).op = _; rw [c1, h.cn], c3.trans h.b0, c4.trans h.b1, h.K.trans hK⟩⟩
    show 0 ≤ (updR D.rq D.nx (rS i s) k).id ∧ (updR D.rq D.nx (rS i s) k).id < 20 ∧ (updR D.rq D.nx (rS i s) k).dead = 30
    rw [h.nx]
    by_cases e : k = n
    · rw [e, updR_self]; exact ⟨by show (0 : Int) ≤ (i : Int); omega, by show (i : Int) < 20; omega, rfl⟩
    · rw [updR_ne _ _ e]; exact h.rq k (by omega)
/-- While they are taken. -/
structure SilB (sz n t : Nat) (D : Dv) : Prop where
  I : DvI 5 sz 1 D
  nx : D.nx = n
  n20 : n ≤ 20
  rq : ∀ k, k < n → 0 ≤ (D.rq k).id ∧ (D.rq k).id < 20 ∧ (D.rq k).dead = 30
  tk : D.g.taken = t
  rp : D.g.reaped = 0
  dn : ∀ j, j < D.g.put → (D.g.D j).dn = false
  un : D.b.un = []
  cn : cntO D.b.op = n
  b0 : D.b.now = 0
  b1 : D.b.cost = 5
  K : KeepS 5 (stG 4) D.st
theorem silB_of {sz i n : Nat} {D D' : Dv} {ids : List Int} (h : SilA sz i n D) (hi : i ≤ 20) (hF : StF sz ids D D') (hI : DvI 5 sz 1 D') (eb : D'.b = D.b) (en : D'.nx = D.nx) (er : D'.rq = D.rq) (es : D'.st = D.st) : SilB sz n 0 D' := by
  have t := h.I.c.gok.t
  have r := h.I.c.gok.r
  rw [h.put] at t
  refine ⟨hI, en.trans h.nx, by have := h.ni; omega, by rw [er]; exact h.rq, by rw [hF.taken]; omega, by rw [hF.reaped]; omega, fun j hj => ?_, by rw [eb]; exact h.un, by rw [eb]; exact h.cn, by rw [eb]; exact h.b0, by rw [eb]; exact h.b1, by rw [es]; exact h.K⟩
  have hp := hF.put
  rw [h.put] at hp
  have hj : j < ids.length := by omega
  have := (hF.new j _ (List.getElem?_eq_getElem hj)).2
  rw [h.put, Nat.zero_add] at this; exact this
theorem silB_take {sz n t k : Nat} {D : Dv} {st' : Nat → po.Buf} (h : SilB sz n t D) (hK : KeepS 5 D.st st') (hv : (D.rq k).vo = true → st' = D.st) (hI : DvI 5 sz 1 (D.tkD 0 ⟨D.g.put, D.g.taken + 1, D.g.reaped, D.g.D⟩ k st')) : SilB sz n (t + 1) (D.tkD 0 ⟨D.g.put, D.g.taken + 1, D.g.reaped, D.g.D⟩ k st') := by
  have sm : ∀ j, (updR D.rq k { D.rq k with tk := true } j).same (D.rq j) := fun j => updR_same (r := { D.rq k with tk := true }) ⟨rfl, rfl, rfl, rfl, rfl, rfl, rfl, rfl⟩ j
  have est : (if (D.rq k).vo then D.st else st') = st' := by cases e : (D.rq k).vo with | true => exact (hv e).symm | false => rfl
  have eD : D.tkD 0 ⟨D.g.put, D.g.taken + 1, D.g.reaped, D.g.D⟩ k st' = { D with g := ⟨D.g.put, D.g.taken + 1, D.g.reaped, D.g.D⟩, rq := updR D.rq k { D.rq k with tk := true }, st := st' } := by
    unfold Dv.tkD; rw [if_pos rfl, est]
  rw [eD] at hI ⊢
  refine ⟨hI, h.nx, h.n20, fun j hj => ?_, by show D.g.taken + 1 = _; rw [h.tk], h.rp, h.dn, h.un, h.cn, h.b0, h.b1, h.K.trans hK⟩
  have := h.rq j hj
  show 0 ≤ (updR D.rq k { D.rq k with tk := true } j).id ∧ (updR D.rq k { D.rq k with tk := true } j).id < 20 ∧ (updR D.rq k { D.rq k with tk := true } j).dead = 30
  rw [(sm j).id, (sm j).dead]; exact this
/-- When all have come out: j descriptors are done, m requests are new. -/
structure SilC (sz n t j m : Nat) (D : Dv) : Prop where
  I : DvI 5 sz 1 D
  nx : D.nx = n + m
  n20 : n ≤ 20
  m4 : m ≤ 4
  old : ∀ k, k < n → (D.rq k).id < 20 ∧ (D.rq k).vo = true
  new : ∀ k, n ≤ k → k < n + m → (D.rq k).id = 50 + ((k - n : Nat) : Int) ∧ (D.rq k).dead = 60 ∧ (D.rq k).slot = ((k - n : Nat) : Int)
  ps : ∀ no k, D.pst no = some k → k < n
  tk : D.g.taken = t
  rp : D.g.reaped = 0
  dn : ∀ x, j ≤ x → x < t → (D.g.D x).dn = false
  un : D.b.un = []
  cn : cntO D.b.op = m
  b0 : D.b.now = 25
  b1 : D.b.cost = 5
  K : KeepS 5 (stG 4) D.st
theorem silC_of {sz n t : Nat} {D D' : Dv} {o : List Ft} (h : SilB sz n t D) (ho : OutP D.b 25 o) (hI : DvI 5 sz 1 D') (hG : GoneP 5 (D.b.gon 25) o { D with b := D.b.gon 25 } D') (hl : goA D.b.now 25 = 0 → o.length + cntO D'.b.op = cntO D.b.op + D.b.un.length ∧ D'.b.un = []) :
    goA D.b.now 25 = 0 ∧ o.length = n ∧ (∀ f ∈ o, f.kind = 2 ∧ f.why = 1) ∧ SilC sz n t 0 0 D' := by
  have hg : goA D.b.now 25 = 0 := by rw [h.b0]; decide
  obtain ⟨h1, h2⟩ := hl hg
  have hb : D'.b = D.b.gon 25 := hG.b
  have gg : D'.g = D.g := hG.g
  have hlate : ∀ k x, D.b.op k = some x → x.2 - D.b.cost ≤ 25 := fun k x hx => by
    obtain ⟨k2, a, b⟩ := (h.I.lnk x.1 x.2).1 ⟨k, hx⟩
    have hk2 := ((h.I.c.opn _ k2).1 a).1
    rw [h.nx] at hk2
    have := (h.rq k2 hk2).2.2
    rw [← b, this, h.b1]; omega
  have hc0 : cntO D'.b.op = 0 := by rw [hb]; exact gon_all hg hlate
  have ho2 := ho
  unfold OutP at ho2
  rw [if_pos hg] at ho2
  obtain ⟨l, hl2, rfl⟩ := ho2
  have vo := hI.none_open hc0
  have nx : D'.nx = n := hG.nx.trans h.nx
  have eg : (D.b.gon 25).now = 25 ∧ (D.b.gon 25).cost = D.b.cost := by unfold Bk.gon; rw [if_pos hg]; exact ⟨rfl, rfl⟩
  have tl := h.I.c.gok.t
  have e0 : D.b.un.length = 0 := by rw [h.un]; rfl
  have ecn := h.cn
  refine ⟨hg, by omega, fun f hf => ?_, ⟨hI, nx, h.n20, by omega, fun k hk => ⟨?_, vo k (by rw [nx]; exact hk)⟩, fun k a b => by omega, fun no k hp => ?_, by rw [gg]; exact h.tk, by rw [gg]; exact h.rp, fun x _ hx => ?_, h2, hc0, by rw [hb]; exact eg.1, by rw [hb, eg.2]; exact h.b1, h.K.trans hG.st⟩⟩
  · rw [h.un, List.nil_append] at hf
    obtain ⟨x, -, rfl⟩ := List.mem_map.1 hf
    exact ⟨rfl, rfl⟩
  · have := (h.rq k hk).2.1
    rw [(hG.rq k).1.id]; exact this
  · obtain ⟨m, rfl, -, -⟩ := hI.c.psl no k hp
    have := (hI.c.pk m k hp).1
    rw [nx] at this; exact this
  · rw [gg]; exact h.dn x (by rw [h.tk] at tl; omega)
theorem silC_pst {sz n t j m : Nat} {D : Dv} (h : SilC sz n t j m D) {x : Nat} (hx : x < t) : ∃ k, D.pst (x : Int) = some k ∧ (D.rq k).vo = true := by
  have tl := h.I.c.gok.t
  rw [h.tk] at tl
  obtain ⟨k, hk⟩ := h.I.c.pex x (by rw [h.rp]; omega) (by omega)
  exact ⟨k, hk, (h.old k (h.ps _ k hk)).2⟩
theorem silC_wr {sz n t j m : Nat} {D : Dv} {at' cw : Int} {xs : List Int} {st' : Nat → po.Buf} (h : SilC sz n t j m D) {x : Nat} (hx : x < t) (hP : WrP 5 D (x : Int) at' xs cw st') : cw = 12 ∧ st' = D.st := by
  obtain ⟨k, hk, hv⟩ := silC_pst h hx
  rcases hP with ⟨-, h1, h2⟩ | ⟨k', hm, -⟩
  · exact ⟨h1, h2⟩
  · obtain rfl : k' = k := by have := hm.1; rw [hk] at this; exact (Option.some.inj this).symm
    have := hm.2.2.2
    rw [hv] at this; cases this
theorem silC_fin {sz n t j k : Nat} {D : Dv} {f : Int} {g' : ri.RSt} (h : SilC sz n t j 0 D) (hj : j < t) (hP : ri.FinP D.g (j : Int) 1 f g') (hI : DvI 5 sz 1 (D.finD f g' k false)) : f = 0 ∧ SilC sz n t (j + 1) 0 (D.finD f g' k false) := by
  rcases hP with ⟨e, -, -⟩ | ⟨-, e, -, -⟩ | ⟨-, h1, h2, h3, rfl, rfl⟩
  · omega
  · rw [h.rp, h.tk, Int.toNat_natCast, h.dn j (Nat.le_refl _) hj] at e
    rcases e with e | e | e
    · omega
    · omega
    · cases e
  refine ⟨rfl, ?_⟩
  rw [Int.toNat_natCast] at hI ⊢
  obtain ⟨e1, -, e3, e4, -, e6, e7⟩ := finD_same (D := D) (k := k) 0 ⟨D.g.put, D.g.taken, D.g.reaped, ri.setD D.g.D j ((D.g.D j).fin 1)⟩ false
  have eg : (D.finD 0 ⟨D.g.put, D.g.taken, D.g.reaped, ri.setD D.g.D j ((D.g.D j).fin 1)⟩ k false).g = ⟨D.g.put, D.g.taken, D.g.reaped, ri.setD D.g.D j ((D.g.D j).fin 1)⟩ := by unfold Dv.finD; rw [if_pos rfl]
  have ej : ∀ x, x ≠ j → ri.setD D.g.D j ((D.g.D j).fin 1) x = D.g.D x := fun x hx => if_neg hx
  exact ⟨hI, e3.trans h.nx, h.n20, h.m4, fun k' hk => ⟨by rw [(e7 k').1.id]; exact (h.old k' hk).1, (e7 k').2.trans (h.old k' hk).2⟩, fun k' a b => by omega, fun no k' hp => by rw [e6] at hp; exact h.ps no k' hp, by rw [eg]; exact h.tk, by rw [eg]; exact h.rp, fun x a b => by
    rw [eg]; show (ri.setD D.g.D j ((D.g.D j).fin 1) x).dn = false; rw [ej x (by omega)]; exact h.dn x (by omega) b, by rw [e1]; exact h.un, by rw [e1]; exact h.cn, by rw [e1]; exact h.b0, by rw [e1]; exact h.b1, by rw [e4]; exact h.K⟩
theorem silC_sub {sz n t m : Nat} {D : Dv} (h : SilC sz n t t m D) (hm4 : m < 4) : (D.st m).owner = 1 ∧ (D.st m).gen = 1 ∧ (D.st m).bs = (stG 4 m).bs ∧
    ∃ D' z rf, po.SizeP 5 D.st (m : Int) 1 z 0 ∧ po.OwnerP 5 D.st (m : Int) 1 1 rf 0 ∧ SubP 5 D z 0 1 (rE m) 0 D' ∧ SilC sz n t t (m + 1) D' := by
  obtain ⟨k1, k2, k3, -⟩ := h.K m (by omega)
  obtain ⟨l1, l2, l3, -⟩ := stG_len 4 m (by omega)
  rw [if_pos hm4] at l3
  have ho : (D.st m).owner = 1 := h.I.c.task (by omega) (fun e => by have := k3.1 e; omega) fun k hk hv e => by
    rw [h.nx] at hk
    rcases Nat.lt_or_ge k n with hlt | hge
    · rw [(h.old k hlt).2] at hv; cases hv
    · have := (h.new k hge hk).2.2
      omega
  have hl : 8 ≤ (D.st m).bs.length := by
    rw [k1, l1]
    rcases (show m = 0 ∨ m = 1 ∨ m = 2 ∨ m = 3 by omega) with rfl | rfl | rfl | rfl <;> decide
  have hm : mayR ((D.st m).bs.length : Nat) 0 (rE m) :=
    ⟨decide_eq_true ⟨rfl, by show (0 : Int) ≤ 0; omega, by show (0 : Int) ≤ _; omega, by show (1 : Int) ≤ 1; omega, by show (1 : Int) ≤ _ - 0; omega⟩, by show (0 : Int) ≤ 65535; omega, by show (0 : Int) ≤ 0; omega, by show (0 : Int) ≤ 15; omega, ⟨by show (0 : Int) ≤ 50 + (m : Int); omega, by show 50 + (m : Int) ≤ 65535; omega⟩, ⟨by show (0 : Int) ≤ 60; omega, by show (60 : Int) < _; omega⟩, by show (0 : Int) ≤ 0; omega, by show (0 : Int) ≤ _; omega⟩
  obtain ⟨hA, st', e, hP, hI', hK⟩ := h.I.sub_ok (r := rE m) (by rw [h.nx]; have := h.n20; omega) (i := m) (by omega) rfl (by rw [k2, l2]; rfl) ho hm ⟨rfl, rfl, rfl⟩ (fun ⟨no, k, _, hp, he⟩ => by
    have := (h.old k (h.ps no k hp)).1
    have he : (D.rq k).id = 50 + (m : Int) := he
    omega) (by
    cases e : D.opn (rE m).id with
    | none => rfl
    | some k =>
      obtain ⟨a, b, c⟩ := (h.I.c.opn _ k).1 e
      rw [h.nx] at a
      have b : (D.rq k).id = 50 + (m : Int) := b
      rcases Nat.lt_or_ge k n with hlt | hge
      · have := (h.old k hlt).1; omega
      · have := (h.new k hge a).1; omega) (by have := h.I.c.cnt; rw [h.nx] at this; have := h.n20; omega) (by rw [h.cn]; omega) (by rw [h.b0, h.b1]; show (25 : Int) + 5 < 60; omega)
  obtain ⟨c1, c2, c3, c4⟩ := cnt_opn hA
  refine ⟨ho, by rw [k2, l2], k1, _, _, (D.st m).refs, Or.inr ⟨m, by omega, rfl, by omega, by rw [k2, l2], rfl, rfl⟩, Or.inr ⟨m, by omega, rfl, by omega, by rw [k2, l2], ho.symm, rfl, rfl⟩, hP, ⟨hI', by show D.nx + 1 = n + (m + 1); rw [h.nx]; omega, h.n20, by omega, fun k hk => ?_, fun k a b => ?_, h.ps, h.tk, h.rp, h.dn, c2.trans h.un, by show cntO (D.b.opn _ _).op = _; rw [c1, h.cn], c3.trans h.b0, c4.trans h.b1, h.K.trans hK⟩⟩
  · show (updR D.rq D.nx (rE m) k).id < 20 ∧ (updR D.rq D.nx (rE m) k).vo = true
    rw [updR_ne _ _ (by rw [h.nx]; omega)]; exact h.old k hk
  · show (updR D.rq D.nx (rE m) k).id = _ ∧ (updR D.rq D.nx (rE m) k).dead = 60 ∧ (updR D.rq D.nx (rE m) k).slot = _
    rw [h.nx]
    by_cases e : k = n + m
    · rw [e, updR_self, show n + m - n = m by omega]; exact ⟨rfl, rfl, rfl⟩
    · rw [updR_ne _ _ e]; exact h.new k a (by omega)
/-- While they are reaped. -/
structure SilD (sz : Nat) (b0 : Bk) (D : Dv) : Prop where
  I : DvI 5 sz 1 D
  hb : D.b = b0
  vo : ∀ no k, D.pst no = some k → (D.rq k).vo = true
theorem silD_of {sz n t j m : Nat} {D : Dv} (h : SilC sz n t j m D) : SilD sz D.b D ∧ D.b.un = [] ∧ (∀ k x, D.b.op k = some x → x.2 = 60) ∧ D.b.now = 25 ∧ D.b.cost = 5 := by
  refine ⟨⟨h.I, rfl, fun no k hp => (h.old k (h.ps no k hp)).2⟩, h.un, fun k x hx => ?_, h.b0, h.b1⟩
  obtain ⟨k2, a, b⟩ := (h.I.lnk x.1 x.2).1 ⟨k, hx⟩
  obtain ⟨a1, a2, a3⟩ := (h.I.c.opn _ k2).1 a
  rw [h.nx] at a1
  rcases Nat.lt_or_ge k2 n with hlt | hge
  · rw [(h.old k2 hlt).2] at a3; cases a3
  · rw [← b]; exact (h.new k2 hge a1).2.1
theorem silD_reap {sz k : Nat} {b0 : Bk} {D : Dv} {d : ri.Dsc} {f : Int} {g' : ri.RSt} {q' : od.OSt} {st' : Nat → po.Buf} (h : SilD sz b0 D) (hP : ri.ReapP D.g d f g') (hk : f = 0 → D.pst (D.g.reaped : Int) = some k ∧ k < D.nx ∧ d.req = (D.rq k).id ∧ 0 ≤ d.st ∧ d.st ≤ 255) (hI : DvI 5 sz 1 (D.rpD f g' k d.st q' st')) : SilD sz b0 (D.rpD f g' k d.st q' st') := by
  by_cases hf : f = 0
  · subst hf
    have hv := h.vo _ k (hk rfl).1
    unfold Dv.rpD at hI ⊢
    rw [if_pos rfl, if_pos hv] at hI ⊢
    refine ⟨hI, h.hb, fun no k' hp => h.vo no k' ?_⟩
    have hp : updK D.pst (D.g.reaped : Int) none no = some k' := hp
    unfold updK at hp
    by_cases e : no = (D.g.reaped : Int)
    · rw [if_pos e] at hp; cases hp
    · rw [if_neg e] at hp; exact hp
  · have e : D.rpD f g' k d.st q' st' = D := by unfold Dv.rpD; rw [if_neg hf]
    rw [e]; exact h
theorem walk (s : Int) (A : Option Addr) (nb cap : Nat) (fb : Nat → Int) (u : Int) (w : World) (bs : 0 ≤ s ∧ s ≤ 255) (bu : 0 ≤ u ∧ u ≤ 255) (hm : nb ≤ maxLen) (rd : Rd w A nb (fun j => .int .u8 (fb j))) (hf : ∀ j, 0 ≤ fb j ∧ fb j ≤ 255) :
    Calls Tryz.prog 6 #[.int .u8 s, .slice A nb cap, .int .u8 u] w fun r w' => r = .returned (.bool true) ∧ Below w.heap.size w w' := by
  unfold maxLen at hm
  have RD := Lib.hid rd
  have HF := Lib.hid hf
  obtain ⟨m, hm6⟩ : ∃ m, s % 4 = m := ⟨_, rfl⟩
  have m0 : 0 ≤ m := by omega
  have m1 : m < 4 := by omega
  have cm : Int.tmod s 4 = m := by rw [← hm6]; exact Int.tmod_eq_emod_of_nonneg (by omega)
  obtain ⟨sz, hsz⟩ : ∃ sz : Nat, 1 + m = (sz : Int) := ⟨(1 + m).toNat, by omega⟩
  have cs : IntKind.i64.wrap (1 + m) = (sz : Int) := by rw [← hsz]; exact IntWalk.i64_in _ ⟨by omega, by omega⟩
  have SZ := Lib.hid (show 1 ≤ sz ∧ sz ≤ 64 by omega)
  have CU := Lib.hid (show Int.tmod u 5 = u % 5 from Int.tmod_eq_emod_of_nonneg (by omega))
  have AW := Lib.hid (awake_c w)
  have HM := Lib.hid hm
  have HB := Lib.hid (And.intro bs bu)
  clear rd hf hm6 hsz m0 m1
  go_enter Tryz.func6, Tryz.ntmps6
  go_wp2_with fail
  refine AW.out.mono ?_
  rintro e w0 ⟨rfl, s0⟩
  have K0 := Lib.hid (got_c s0)
  clear AW s0
  go_wp2_with fail
  refine K0.out.mono ?_
  rintro e w1 ⟨p, rfl, s1⟩
  have K1 := Lib.hid (newD_o (sz := sz) (c := 5) (X := []) s1 (fun _ => 0) SZ.out.1 SZ.out.2 rfl)
  clear s1 K0
  go_wp2_with fail
  refine K1.out.mono ?_
  rintro e w2 ⟨a, rfl, rfl, s2⟩
  have S2 := Lib.hid s2
  clear s2 K1 cm cs
  by_cases hbig : 20 < nb
  · have d1 : decide (20 < (nb : Int)) = true := decide_eq_true (by omega)
    have d1' : decide (20 < nb) = true := decide_eq_true hbig
    have DN := Lib.hid (S2.out.take 0).below
    go_wp2_with fail
    go_ret
    exact ⟨rfl, DN.out⟩
  have d1 : decide (20 < (nb : Int)) = false := decide_eq_false (by omega)
  have d1' : decide (20 < nb) = false := decide_eq_false hbig
  have hn20 : nb ≤ 20 := by omega
  clear hbig
  go_wp2_with fail
  clear d1 d1'
  go_loopw [10, 11] (fun x10 x11 wr => ∃ (i n : Nat) (D : Dv) (bq : Nat → Nat), i ≤ nb ∧ x10 = .int .i64 (n : Int) ∧ x11 = .int .i64 (i : Int) ∧ SilA sz i n D ∧ St w None wr (DvL a 5 sz bq D ++ [])) (fun _ x11 _ => nb - (intOf x11).toNat)
  case atStart => exact ⟨0, 0, Dv.new (stG 4) 5, fun _ => 0, by omega, rfl, rfl, silA_new SZ.out, S2.out⟩
  case round =>
  clear S2
  obtain ⟨i, n, D, bq, hi, rfl, rfl, hA, sr⟩ := hrel
  have HA := Lib.hid hA
  have hni := hA.ni
  by_cases hlt : i < nb
  · have z1 : decide ((i : Int) < (nb : Int)) = true := decide_eq_true (by omega)
    have z1' : decide (i < nb) = true := decide_eq_true hlt
    obtain ⟨ib, off, rfl, hib, hrd⟩ := RD.out (by omega)
    have e0 : wr.cell? ⟨ib, off + i, none⟩ = some (.int .u8 (fb i)) := ((sr.take 0).below.cell (p := ⟨ib, off + i, none⟩) hib).trans (hrd i hlt)
    obtain ⟨v0, v1⟩ := HF.out i
    obtain ⟨v, hv⟩ : ∃ v, fb i = v := ⟨_, rfl⟩
    rw [hv] at e0 v0 v1
    obtain ⟨sl, hsl⟩ : ∃ sl, v % 4 = sl := ⟨_, rfl⟩
    have ct : Int.tmod v 4 = sl := by rw [← hsl]; exact Int.tmod_eq_emod_of_nonneg v0
    have K := Lib.hid (show Calls Tryz.prog 18 #[ptrV a.d, .agg #[.int .i64 (i : Int), .int .i64 0, .int .u64 30, .int .i64 0, .int .i64 sl, .int .u64 1, .int .i64 0, .int .i64 2]] _ _ from subW sr hA.I (rS i sl) ⟨rfl, rfl, rfl, rfl⟩ (wf_small (by show _ ≤ (i : Int); omega) (by show (i : Int) ≤ _; omega)) (by show (0 : Int) ≤ 30; omega) (by show (30 : Int) ≤ _; omega) (by rw [hA.nx]; omega))
    clear hA sr hrd hv hsl
    go_wp2_with fail
    refine K.out.mono ?_
    rintro e w5 ⟨f, D', bq', rfl, hh, s5⟩
    have hh2 := silA_sub HA.out (by omega) hh
    have S5 := Lib.hid s5
    clear K s5 hh ct v0 v1 e0
    rcases hh2 with ⟨hf, hA'⟩ | ⟨rfl, hA'⟩
    · have z : (f == 0) = false := beq_eq_false_iff_ne.2 hf
      have HA' := Lib.hid hA'
      clear hA' hf
      go_wp2_with fail
      go_roundw
      case rel => exact ⟨i + 1, n, D', bq', by omega, rfl, by go_num, HA'.out, S5.out⟩
      case measure => simp [intOf]; omega
    · have HA' := Lib.hid hA'
      clear hA'
      go_wp2_with fail
      go_roundw
      case rel => exact ⟨i + 1, n + 1, D', bq', by omega, by go_num, by go_num, HA'.out, S5.out⟩
      case measure => simp [intOf]; omega
  obtain rfl : i = nb := by omega
  have K2 := Lib.hid (startW sr hA.I)
  clear sr hA hlt hi
  have z1 : decide ((i : Int) < (i : Int)) = false := decide_eq_false (by omega)
  go_wp2_with fail
  refine K2.out.mono ?_
  rintro e w3 ⟨B2, d2, ids, D2, rfl, -, -, hF, hI2, eb, en, er, -, es, s3⟩
  have hB := silB_of HA.out hn20 hF hI2 eb en er es
  have HBB := Lib.hid hB
  have S3 := Lib.hid (show St w None w3 (DvL a 5 sz bq D2 ++ [LisR 3 1 (.slice none 0 0) 0 (iv [])]) from (show St w None w3 (DvL a 5 sz bq D2 ++ []) from s3.drop 8 (by simp [DvL])).lis_nil _ _)
  obtain ⟨iI, hiI, hzI, hsI, hbI⟩ := info3w YtcbhhajcgfiigaaGreatiI
  clear s3 K2 hF hI2 eb en er es hB z1 HA
  have tu0 : 0 ≤ u % 5 := by omega
  have tu1 : u % 5 < 5 := by omega
  obtain ⟨tu, htu⟩ : ∃ tu, u % 5 = tu := ⟨_, rfl⟩
  have cu : Int.tmod u 5 = tu := CU.out.trans htu
  rw [htu] at tu0 tu1
  clear htu
  go_wp2_with fail
  go_loopw [12, 13, 14, 15, 16] (fun x12 x13 _ _ _ wr => ∃ (i t : Nat) (D : Dv) (B : Option Addr) (c : Nat), (i : Int) ≤ tu ∧ t ≤ i ∧ x12 = .slice B t c ∧ x13 = .int .i64 (i : Int) ∧ SilB sz n t D ∧ St w None wr (DvL a 5 sz bq D ++ [LisR 3 1 (.slice B t c) t (iv ((List.range t).map Int.ofNat))])) (fun _ x13 _ _ _ _ => 5 - (intOf x13).toNat)
  case atStart => exact ⟨0, 0, D2, none, 0, by omega, by omega, rfl, rfl, HBB.out, S3.out⟩
  case round =>
  clear S3 HBB
  obtain ⟨j, t, D3, B, c, hj, htj, rfl, rfl, hB, sr⟩ := hrel
  have HB3 := Lib.hid hB
  by_cases hlt : (j : Int) < tu
  · have z1 : decide ((j : Int) < tu) = true := decide_eq_true hlt
    have K3 := Lib.hid (takeW sr hB.I)
    clear hB sr
    go_wp2_with fail
    refine K3.out.mono ?_
    rintro e w4 ⟨D4, no, f3, d, rfl, hh, s4⟩
    rcases hh with ⟨he, rfl, rfl, rfl, rfl⟩ | ⟨hl2, rfl, rfl, rfl, kk, st', h4, h5, h6, h7, rfl, h9⟩
    · have S4 := Lib.hid (s4.alloc (.cells #[.int .i64 0, .int .i64 0, .int .i64 0, .int .u64 0, .int .i64 0, .int .i64 0, .bool false, .bool false, .int .i64 0] 66))
      clear s4 K3 he z1
      unfold ri.dZ ri.Dsc.v
      go_wp2_with fail
      go_roundw
      case rel => exact ⟨j + 1, t, D4, B, c, by omega, by omega, rfl, by go_num, HB3.out, S4.out⟩
      case measure => simp [intOf]; omega
    · have hB4 := silB_take HB3.out h6 h7 h9
      obtain ⟨D4, hD4⟩ : ∃ D4, D3.tkD 0 ⟨D3.g.put, D3.g.taken + 1, D3.g.reaped, D3.g.D⟩ kk st' = D4 := ⟨_, rfl⟩
      rw [hD4] at hB4 s4
      clear hD4
      rw [HB3.out.tk]
      obtain ⟨⟨q1, q2, q3, q4, q5, q6, q7, q8, q9⟩, hq⟩ : ∃ d : ri.Dsc, D3.g.D t = d := ⟨_, rfl⟩
      rw [hq]
      unfold ri.Dsc.v
      dsimp only
      have s5 := (s4.alloc (.cells #[.int .i64 q1, .int .i64 q2, .int .i64 q3, .int .u64 q4, .int .i64 q5, .int .i64 q6, .bool q7, .bool q8, .int .i64 q9] 66)).alloc (.cells #[.int .i64 (t : Int)] 3)
      have rb := rds_box (w4.alloc (.cells #[.int .i64 q1, .int .i64 q2, .int .i64 q3, .int .u64 q4, .int .i64 q5, .int .i64 q6, .bool q7, .bool q8, .int .i64 q9] 66)) 3 (.int .i64 (t : Int))
      rw [show (w4.alloc (.cells #[.int .i64 q1, .int .i64 q2, .int .i64 q3, .int .u64 q4, .int .i64 q5, .int .i64 q6, .bool q7, .bool q8, .int .i64 q9] 66)).heap.size = w4.heap.size + 1 by simp] at rb
      have RB := Lib.hid rb
      have HL := Lib.hid (dv_lis s5 0 rfl)
      have S5 := Lib.hid s5
      have HB4 := Lib.hid hB4
      clear s4 s5 K3 h4 h5 h6 h7 h9 hB4 hq hl2 z1 rb
      go_wp2_with (first
        | (at_builtin; refine wpList_lis rfl (.tmp 95) (.tmp 97) 63 rfl 3 iI (.int .i64 0) 1 8 Tryz.underlying63 hiI hzI hsI hbI rfl (by decide) _ _ _ rfl HL.out _ 1 1 [.int .i64 (t : Int)] rfl RB.out (by simp [Value.oneCell']) (by unfold maxLen; omega) (by omega) ?_; intro B' c' w6 hl hg hat; have t6 := S5.out.lis_put 8 rfl hl hg hat; have S6 := Lib.hid (show St w None w6 (DvL a 5 sz bq D4 ++ [LisR 3 1 (.slice B' (t + 1) c') (t + 1) (iv ((List.range (t + 1)).map Int.ofNat))]) by rw [List.range_succ, List.map_append, iv_app]; exact t6); clear hl hg hat t6)
        | fail)
      go_roundw
      case rel => exact ⟨j + 1, t + 1, D4, B', c', by omega, by omega, rfl, by go_num, HB4.out, S6.out⟩
      case measure => simp [intOf]; omega
  have z1 : decide ((j : Int) < tu) = false := decide_eq_false hlt
  have K4 := Lib.hid (goW (u := 25) sr hB.I (by omega))
  have t4 : t ≤ 4 := by omega
  clear sr hB hlt hj htj
  go_wp2_with fail
  refine K4.out.mono ?_
  rintro e w5 ⟨B7, m7, d7, o, D5, rfl, ho, hl, -, hI5, hG5, hcn, -, s5⟩
  obtain ⟨hg, hol, hall, hC⟩ := silC_of HB3.out ho hI5 hG5 hcn
  rw [hg]
  obtain rfl : m7 = n := hl.symm.trans hol
  have HC := Lib.hid hC
  have S5 := Lib.hid s5
  have HALL := Lib.hid hall
  have HO := Lib.hid hol
  clear K4 ho hl hI5 hG5 hcn s5 hg hol hall hC HB3 z1 cu tu0 tu1
  go_wp2_with fail
  go_loopw [19] (fun x19 wr => ∃ i : Nat, i ≤ m7 ∧ x19 = .int .i64 (i : Int) ∧ wr = w5) (fun x19 _ => m7 - (intOf x19).toNat)
  case atStart => exact ⟨0, by omega, rfl, rfl⟩
  case round =>
  obtain ⟨i1, hi1, rfl, rfl⟩ := hrel
  by_cases hlt : i1 < m7
  · have z1 : decide ((i1 : Int) < (m7 : Int)) = true := decide_eq_true (by omega)
    have z1' : decide (i1 < m7) = true := decide_eq_true hlt
    obtain ⟨⟨f1, f2, f3⟩, hfx⟩ : ∃ fx, o[i1]? = some fx := ⟨_, List.getElem?_eq_getElem (by rw [HO.out]; exact hlt)⟩
    obtain ⟨k1, k2⟩ := HALL.out _ (List.mem_of_getElem? hfx)
    have k1 : f2 = 2 := k1
    have k2 : f3 = 1 := k2
    subst k1 k2
    obtain ⟨c0, c1, c2⟩ := fvs_at o i1 _ hfx
    obtain ⟨gb, off, rfl, hc⟩ := (dv_lis S5.out 1 rfl).reads.2.resolve_left (by omega)
    have g1 : wr.cell? ⟨gb, off + i1 * 3 + 1, none⟩ = some (.int .i64 2) := by rw [Nat.add_assoc]; exact hc _ _ c1
    have g2 : wr.cell? ⟨gb, off + i1 * 3 + 2, none⟩ = some (.int .i64 1) := by rw [Nat.add_assoc]; exact hc _ _ c2
    clear hc c0 c1 c2 hfx
    go_wp2_with fail
    go_roundw
    case rel => exact ⟨i1 + 1, by omega, by go_num, by first | rfl | trivial⟩
    case measure => simp [intOf]; omega
  obtain rfl : i1 = m7 := by omega
  have z1 : decide ((i1 : Int) < (i1 : Int)) = false := decide_eq_false (by omega)
  have S6 := Lib.hid (show St w None wr (DvL a 5 sz bq D5 ++ [LisR 3 1 (.slice B t c) t (iv ((List.range t).map Int.ofNat))]) from S5.out.drop 9 (by simp [DvL]))
  clear S5 hlt hi1 HALL HO
  go_wp2_with fail
  clear z1
  go_loopw [20] (fun x20 wr => ∃ (x : Nat) (D : Dv), x ≤ t ∧ x20 = .int .i64 (x : Int) ∧ SilC sz i1 t x 0 D ∧ St w None wr (DvL a 5 sz bq D ++ [LisR 3 1 (.slice B t c) t (iv ((List.range t).map Int.ofNat))])) (fun x20 _ => t - (intOf x20).toNat)
  case atStart => exact ⟨0, D5, by omega, rfl, HC.out, S6.out⟩
  case round =>
  clear S6 HC
  obtain ⟨x, D6, hx, rfl, hC, sr⟩ := hrel
  have HC := Lib.hid hC
  by_cases hlt : x < t
  · have z1 : decide ((x : Int) < (t : Int)) = true := decide_eq_true (by omega)
    have z1' : decide (x < t) = true := decide_eq_true hlt
    obtain ⟨lb, lo, rfl, hc⟩ := (dv_lis sr 0 rfl).reads.2.resolve_left (by omega)
    have LC := Lib.hid (show ∀ (V : World) (E : Dv), St w None V (DvL a 5 sz bq E ++ [LisR 3 1 (.slice (some ⟨lb, lo, none⟩) t c) t (iv ((List.range t).map Int.ofNat))]) → V.cell? ⟨lb, lo + x, none⟩ = some (.int .i64 (x : Int)) from fun V E s => by
      obtain ⟨lb', lo', hab, hc'⟩ := (dv_lis s 0 rfl).reads.2.resolve_left (by omega)
      injection hab with hab
      injection hab with h1 h2 _
      subst h1 h2
      exact hc' x _ (iv_get (by simp [hlt])))
    have e0 := LC.out _ _ sr
    have e1 := cell_alloc e0 (.cells #[.int .u8 9] 5)
    have sb := sr.alloc (.cells #[.int .u8 9] 5)
    have KW := Lib.hid (wrW (no := (x : Int)) (at' := 0) (xs := [9]) (cp := 1) sb hC.I (by unfold maxLen; decide) (rds_box wr 5 (.int .u8 9)) (wf_small (by omega) (by omega)))
    clear hC sr sb hc
    go_wp2_with fail
    refine KW.out.mono ?_
    rintro e w7 ⟨cw, st', rfl, hP, -, -, -, s7⟩
    obtain ⟨rfl, rfl⟩ := silC_wr HC.out hlt hP
    have e2 := LC.out _ _ s7
    have KF := Lib.hid (finW (no := (x : Int)) (stt := 1) (show St w None w7 (DvL a 5 sz bq D6 ++ _) from s7) HC.out.I false (wf_small (by omega) (by omega)))
    clear KW s7 hP e0 e1
    go_wp2_with fail
    refine KF.out.mono ?_
    rintro e w8 ⟨f5, g5, k5, rfl, hP5, -, hI5, s8⟩
    obtain ⟨rfl, hC5⟩ := silC_fin HC.out hlt hP5 hI5
    have HC5 := Lib.hid hC5
    have S8 := Lib.hid s8
    clear KF s8 hP5 hI5 hC5 e2
    go_wp2_with fail
    go_roundw
    case rel => exact ⟨x + 1, _, by omega, by go_num, HC5.out, S8.out⟩
    case measure => simp [intOf]; omega
  obtain rfl : x = t := by omega
  have z1 : decide ((x : Int) < (x : Int)) = false := decide_eq_false (by omega)
  have S9 := Lib.hid sr
  clear sr hC hlt hx
  go_wp2_with fail
  clear z1
  go_loopw [21, 22, 23, 24, 25, 26, 27] (fun x21 _ _ _ _ _ _ wr => ∃ (m : Nat) (D : Dv) (bq : Nat → Nat), m ≤ 4 ∧ x21 = .int .i64 (m : Int) ∧ SilC sz i1 x x m D ∧ St w None wr (DvL a 5 sz bq D ++ [LisR 3 1 (.slice B x c) x (iv ((List.range x).map Int.ofNat))])) (fun x21 _ _ _ _ _ _ _ => 4 - (intOf x21).toNat)
  case atStart => exact ⟨0, D6, bq, by omega, rfl, HC.out, S9.out⟩
  case round =>
  clear S9 HC
  obtain ⟨y, D7, bq7, hy, rfl, hC, sr⟩ := hrel
  have HC := Lib.hid hC
  by_cases hlt : y < 4
  · obtain ⟨ow, gn, bs7, D8, z, rf, hz, hwo, hP, hC8⟩ := silC_sub hC hlt
    have s1 := dv_box sr 37 #[.int .i64 (y : Int), .int .u64 1]
    obtain ⟨hb, hhb⟩ : ∃ hb, wr.heap.size = hb := ⟨_, rfl⟩
    rw [hhb] at s1
    have lz : (stG 4 y).bs.length = [8, 8, 8, 20, 20].getD y 0 ∧ (stG 4 y).bs = List.replicate ([8, 8, 8, 20, 20].getD y 0) 0 := ⟨(stG_len 4 y (by omega)).1, (stG_len 4 y (by omega)).2.2.2⟩
    have l8 : 8 ≤ [8, 8, 8, 20, 20].getD y 0 := by rcases (show y = 0 ∨ y = 1 ∨ y = 2 ∨ y = 3 by omega) with rfl | rfl | rfl | rfl <;> decide
    have hr : po.ReadP 5 D7.st (y : Int) 1 0 1 [0] 0 := Or.inr ⟨y, by omega, rfl, by omega, gn, Or.inr ⟨⟨by omega, by omega, by omega, by rw [bs7, lz.1]; omega⟩, rfl, by
      rw [bs7, lz.2]
      obtain ⟨q, hq⟩ : ∃ q, [8, 8, 8, 20, 20].getD y 0 = q + 1 := ⟨[8, 8, 8, 20, 20].getD y 0 - 1, by omega⟩
      rw [hq]; rfl⟩⟩
    have BX := Lib.hid (show ∀ (V : World) (bq : Nat → Nat) (E : Dv) (Y : List Res), St w None V (DvL a 5 sz bq E ++ (([LisR 3 1 (.slice B x c) x (iv ((List.range x).map Int.ofNat))] ++ [BlkR hb 37 #[.int .i64 (y : Int), .int .u64 1]]) ++ Y)) → V.cell? ⟨hb, 0, none⟩ = some (.int .i64 (y : Int)) ∧ V.cell? ⟨hb, 1, none⟩ = some (.int .u64 1) from fun V bq E Y s => (dv_blk s 1 rfl).two)
    obtain ⟨x0, x1⟩ := BX.out _ _ _ [] (by rw [List.append_nil]; exact s1)
    have KR := Lib.hid (po.read_o s1 1 rfl hC.I.c.pok hr)
    have HZ := Lib.hid hz
    have HW := Lib.hid hwo
    have HP := Lib.hid hP
    have HC8 := Lib.hid hC8
    clear sr s1 hC ow gn bs7 hz hwo hP hC8 lz l8 hr
    go_wp2_with fail
    refine KR.out.mono ?_
    rintro e w7 ⟨B8, c8, rfl, s7⟩
    have s7 : St w None w7 (DvL a 5 sz bq7 D7 ++ (([LisR 3 1 (.slice B x c) x (iv ((List.range x).map Int.ofNat))] ++ [BlkR hb 37 #[.int .i64 (y : Int), .int .u64 1]]) ++ [LisR 5 1 (.slice B8 1 c8) 1 (po.bys [0])])) := by rw [← List.append_assoc]; exact s7
    obtain ⟨x0, x1⟩ := BX.out _ _ _ _ s7
    have KO := Lib.hid (po.owner_o s7 1 rfl HC.out.I.c.pok HW.out)
    clear s7 KR hhb
    go_wp2_with fail
    refine KO.out.mono ?_
    rintro e w8 ⟨rfl, s8⟩
    replace s8 : St w None w8 (DvL a 5 sz bq7 D7 ++ (([LisR 3 1 (.slice B x c) x (iv ((List.range x).map Int.ofNat))] ++ [BlkR hb 37 #[.int .i64 (y : Int), .int .u64 1]]) ++ [LisR 5 1 (.slice B8 1 c8) 1 (po.bys [0])])) := s8
    obtain ⟨x0, x1⟩ := BX.out _ _ _ _ s8
    obtain ⟨gb, go_, rfl, gc⟩ := (dv_lis s8 2 rfl).reads.2.resolve_left (by omega)
    have g0 : w8.cell? ⟨gb, go_, none⟩ = some (.int .u8 0) := gc 0 _ rfl
    have cw : IntKind.i64.wrap (50 + (y : Int)) = 50 + (y : Int) := IntWalk.i64_in _ ⟨by omega, by omega⟩
    have KS := Lib.hid (show Calls Tryz.prog 18 #[ptrV a.d, .agg #[.int .i64 (50 + (y : Int)), .int .i64 0, .int .u64 60, .int .i64 0, .int .i64 (y : Int), .int .u64 1, .int .i64 0, .int .i64 1]] _ _ from subD_o s8 HC.out.I (rE y) ⟨rfl, rfl, rfl, rfl⟩ (wf_small (by show _ ≤ 50 + (y : Int); omega) (by show 50 + (y : Int) ≤ _; omega)) (by show (0 : Int) ≤ 60; omega) (by show (60 : Int) ≤ _; omega) HZ.out HW.out HP.out)
    clear s8 KO gc
    go_wp2_with fail
    refine KS.out.mono ?_
    rintro e w9 ⟨rfl, bq9, s9⟩
    have S9 := Lib.hid (show St w None w9 (DvL a 5 sz bq9 D8 ++ [LisR 3 1 (.slice B x c) x (iv ((List.range x).map Int.ofNat))]) from (s9.drop 10 (by simp [DvL])).drop 9 (by simp [DvL]))
    clear KS s9 x0 x1 g0 cw
    go_wp2_with fail
    go_roundw
    case rel => exact ⟨y + 1, D8, bq9, by omega, by go_num, HC8.out, S9.out⟩
    case measure => simp [intOf]; omega
  obtain rfl : y = 4 := by omega
  obtain ⟨hD, hun, hop, hnow, hcost⟩ := silD_of hC
  obtain ⟨bk, hbk⟩ : ∃ bk, D7.b = bk := ⟨_, rfl⟩
  rw [hbk] at hD hun hop hnow hcost
  have HDD := Lib.hid hD
  have HBK := Lib.hid (And.intro hun (And.intro hop (And.intro hnow hcost)))
  have S10 := Lib.hid sr
  clear sr hC HC hD hun hop hnow hcost hbk hlt hy
  go_wp2_with fail
  go_loopw [28] (fun x28 wr => ∃ (z : Nat) (D : Dv), z ≤ x ∧ x28 = .int .i64 (z : Int) ∧ SilD sz bk D ∧ St w None wr (DvL a 5 sz bq7 D ++ [LisR 3 1 (.slice B x c) x (iv ((List.range x).map Int.ofNat))])) (fun x28 _ => x - (intOf x28).toNat)
  case atStart => exact ⟨0, D7, by omega, rfl, HDD.out, S10.out⟩
  case round =>
  clear S10 HDD
  obtain ⟨z, D9, hz, rfl, hD, sr⟩ := hrel
  have HDD := Lib.hid hD
  by_cases hlt : z < x
  · have z1 : decide ((z : Int) < (x : Int)) = true := decide_eq_true (by omega)
    have z1' : decide (z < x) = true := decide_eq_true hlt
    have KR := Lib.hid (reapW sr hD.I)
    clear hD sr
    go_wp2_with fail
    refine KR.out.mono ?_
    rintro e w7 ⟨d6, f6, g6, k6, q6, st6, rfl, hP6, hk6, hI6, -, s7⟩
    have HD6 := Lib.hid (silD_reap HDD.out hP6 hk6 hI6)
    have S7 := Lib.hid s7
    clear s7 KR hP6 hk6 hI6
    go_wp2_with fail
    all_goals first
      | (go_roundw
         case rel => first | exact ⟨z + 1, by omega, by go_num, _, HD6.out, S7.out⟩ | exact ⟨z + 1, _, by omega, by go_num, HD6.out, S7.out⟩
         case measure => (simp [intOf]; omega))
      | exact ⟨⟨z + 1, by omega, by go_num, _, HD6.out, S7.out⟩, by simp [intOf]; omega⟩
      | exact ⟨⟨z + 1, _, by omega, by go_num, HD6.out, S7.out⟩, by simp [intOf]; omega⟩
  obtain rfl : z = x := by omega
  have z1 : decide ((z : Int) < (z : Int)) = false := decide_eq_false (by omega)
  have KG := Lib.hid (goW (u := 26) sr hD.I (by omega))
  clear sr hD hlt hz
  go_wp2_with fail
  refine KG.out.mono ?_
  rintro e w11 ⟨B7', m8, d8, o8, D10, rfl, ho, hl, -, -, -, -, -, s11⟩
  obtain ⟨un, op, nw, cst⟩ := HBK.out
  have eb : D9.b = bk := HDD.out.hb
  rw [eb] at ho ⊢
  have hg : goA bk.now 26 = 0 := by rw [nw]; decide
  rw [hg]
  have h0 : m8 = 0 := by
    unfold OutP at ho
    rw [if_pos hg] at ho
    obtain ⟨l, hl2, rfl⟩ := ho
    have : l = [] := late_none hl2 fun k x hx => by rw [op k x hx, cst]; omega
    rw [this, un] at hl
    simpa [fLate] using hl.symm
  subst h0
  have DN := Lib.hid (s11.take 0).below
  clear s11 KG ho hl eb hg un op nw cst HBK
  go_wp2_with fail
  go_ret
  exact ⟨rfl, DN.out⟩

set_option maxRecDepth 100000 in
theorem lifted (os : Os) (started : os.Started) (H : Type) (enc : TypeId × Value → H) :
    ReturnsInHanded {} Tryz.checked os 6 .any (Rows.ioqSilentSpec.pre6 enc Tryz.prog Tryz.f6 Rows.ioqSilentRow.domain false) (Rows.ioqSilentSpec.post enc Tryz.prog Tryz.f6 false true false false) := by
  refine law_lifted (C := Tryz.checked) (tb := 4) own started (by kernel_rfl) Tryz.func6
    (ChangeSpec.witness6 (enc := enc) (C := Tryz.checked) false ⟨#[], #[.int .u8 0, .slice none 0 0, .int .u8 0], []⟩ 8 (by kernel_rfl) (by kernel_rfl) (by kernel_rfl) (by kernel_rfl)) laid (by kernel_rfl) (by kernel_rfl) Tryz.underlying4 rfl ?_
  intro W base args ds ps hval0 hA0 hlt
  have hval : ∀ (j : Nat) t v, Tryz.f6.params[j]? = some t → args[j]? = some v → Value.okWide Tryz.prog W .any base t v := hval0
  have hA : DataW.TrodAll enc Tryz.prog W 0 (fun _ => true) true Tryz.f6.params.toList args.toList ds ps := hA0
  clear hA0 hval0
  rw [Tryz.params6] at hA hval
  obtain ⟨v0, vs0, d0, ds0, p0, q0, hargs, rfl, rfl, h0, r0⟩ := trodAll_cons hA
  obtain ⟨v1, vs1, d1, ds1, p1, q1, rfl, rfl, rfl, h1, r1⟩ := trodAll_cons r0
  obtain ⟨v2, vs2, d2, ds2, p2, q2, rfl, rfl, rfl, h2, r2⟩ := trodAll_cons r1
  obtain ⟨rfl, rfl, rfl⟩ := trodAll_nil r2
  obtain rfl : args = #[v0, v1, v2] := by cases args; simp_all
  obtain ⟨a0, rfl, rfl, rfl, w0⟩ := open_int Tryz.underlying5 (hval 0 5 v0 rfl rfl) h0
  obtain ⟨A1, n1, cap1, f1, rfl, le1, mx1, wf1, rd1⟩ := open_slice_ints Tryz.underlying46 Tryz.underlying5 (by kernel_rfl) (hval 1 46 v1 rfl rfl) h1
  obtain ⟨a2, rfl, rfl, rfl, w2⟩ := open_int Tryz.underlying5 (hval 2 5 v2 rfl rfl) h2
  refine ⟨⟨rfl, rfl, rfl⟩, ?_⟩
  exact walk a0 A1 n1 cap1 f1 a2 W (bounds_u8 w0) (bounds_u8 w2) (by omega) rd1 (fun i => bounds_u8 (wf1 i))

theorem over : Rows.ioqSilentRow.holds Tryz.pinned (OpenSpec.ofChange Rows.ioqSilentSpec) :=
  OpenClaim.holds_of_wide 6 Tryz.f6 rfl rfl rfl rfl rfl rfl rfl ⟨rfl, rfl, rfl, rfl, rfl⟩ rfl rfl rfl rfl rfl (by kernel_rfl) Tryz.func6 (by kernel_rfl)
    (of_decide_eq_true (by kernel_rfl)) (by unfold Func.isWrapper; first | (rw [if_pos (by decide +kernel)]; kernel_rfl) | (rw [if_neg (by decide +kernel)]; exact ⟨rfl, rfl⟩))
    (fun os started H enc _ => lifted os started H enc)
theorem proved : Rows.IoqSilentSaid := over
#print axioms proved
end Go.Proofs.YtcbhhajcgfiigaaGreat.ioqSilent
