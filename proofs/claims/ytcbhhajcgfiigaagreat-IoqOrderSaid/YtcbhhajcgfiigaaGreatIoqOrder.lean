/-
  For every four times and size IoqOrder answers true, and changes nothing: requests are started in the order of their times; the device takes them so. No condition.
-/
import Derived.Test.YtcbhhajcgfiigaaGreatRows
import Derived.Test.YtcbhhajcgfiigaaGreatFr
import Derived.Test.YtcbhhajcgfiigaaGreatIoqW
import Derived.Test.YtcbhhajcgfiigaaGreatIoqJ
namespace Go.Proofs.YtcbhhajcgfiigaaGreat.ioqOrder
open Go.ChangeShapes Go.WideShapes Go.ChangeAt Go.RowKit
set_option linter.unusedVariables false
theorem own : ownKnob Tryz.prog.godebug = none := by kernel_rfl
theorem laid : laidOutB Tryz.prog = true := by kernel_rfl
set_option maxRecDepth 100000
set_option maxHeartbeats 4000000
def rO (i : Nat) (d : Int) : Rq := ⟨(i : Int), 0, d, (i : Int), (i : Int), 1, 0, 1, false, false, false, false⟩
/-- While requests come. -/
structure OrdA (dd : Nat → Int) (sz i : Nat) (D : Dv) : Prop where
  I : DvI 5 sz 1 D
  nx : D.nx = i
  rq : ∀ j, j < i → (D.rq j).id = (j : Int) ∧ (D.rq j).dead = 10 + dd j ∧ (D.rq j).slot = (j : Int) ∧ (D.rq j).vo = false
  put : D.g.put = 0
  b0 : D.b.now = 0
  b1 : D.b.cost = 5
  cn : cntO D.b.op = i
  K : KeepS 5 (stG 4) D.st
theorem ordA_new {dd : Nat → Int} {sz : Nat} (hs : 1 ≤ sz ∧ sz ≤ 64) : OrdA dd sz 0 (Dv.new (stG 4) 5) :=
  ⟨newI hs rfl, rfl, fun j h => absurd h (Nat.not_lt_zero j), rfl, rfl, rfl, by show cntO (fun _ => none) = 0; kernel_rfl, KeepS.refl _ _⟩
theorem ordA_sub {dd : Nat → Int} {sz i : Nat} {D : Dv} (h : OrdA dd sz i D) (hi : i < 4) (hd : ∀ j, 0 ≤ dd j ∧ dd j ≤ 255) :
    ∃ D' z rf, po.SizeP 5 D.st (i : Int) 1 z 0 ∧ po.OwnerP 5 D.st (i : Int) 1 1 rf 0 ∧ SubP 5 D z 0 1 (rO i (10 + dd i)) 0 D' ∧ OrdA dd sz (i + 1) D' := by
  obtain ⟨k1, k2, k3, -⟩ := h.K i (by omega)
  obtain ⟨l1, l2, l3, -⟩ := stG_len 4 i (by omega)
  rw [if_pos hi] at l3
  have ho : (D.st i).owner = 1 := h.I.c.task (by omega) (fun e => by have := k3.1 e; omega) fun k hk hv e => by
    rw [h.nx] at hk
    have := (h.rq k hk).2.2.1
    omega
  have hl : 8 ≤ (D.st i).bs.length := by
    rw [k1, l1]
    rcases (show i = 0 ∨ i = 1 ∨ i = 2 ∨ i = 3 by omega) with rfl | rfl | rfl | rfl <;> decide
  have hdi := hd i
  have hm : mayR ((D.st i).bs.length : Nat) 0 (rO i (10 + dd i)) :=
    ⟨decide_eq_true ⟨rfl, by show (0 : Int) ≤ 0; omega, by show (0 : Int) ≤ _; omega, by show (1 : Int) ≤ 1; omega, by show (1 : Int) ≤ _ - 0; omega⟩, by show (0 : Int) ≤ 65535; omega, by show (0 : Int) ≤ 0; omega, by show (0 : Int) ≤ 15; omega, ⟨by show (0 : Int) ≤ (i : Int); omega, by show (i : Int) ≤ 65535; omega⟩, ⟨by show 0 ≤ 10 + dd i; omega, by show 10 + dd i < _; omega⟩, by show (0 : Int) ≤ (i : Int); omega, by show (i : Int) ≤ _; omega⟩
  obtain ⟨hA, st', e, hP, hI', hK⟩ := h.I.sub_ok (r := rO i (10 + dd i)) (by rw [h.nx]; omega) (i := i) (by omega) rfl (by rw [k2, l2]; rfl) ho hm ⟨rfl, rfl, rfl⟩ (fun ⟨no, k, _, hp, _⟩ => by
    obtain ⟨m, -, a, b⟩ := h.I.c.psl no k hp
    rw [h.put] at b; omega) (by
    cases e : D.opn (rO i (10 + dd i)).id with
    | none => rfl
    | some k =>
      obtain ⟨a, b, c⟩ := (h.I.c.opn _ k).1 e
      rw [h.nx] at a
      have := (h.rq k a).1
      have b : (D.rq k).id = (i : Int) := b
      omega) (by have := h.I.c.cnt; rw [h.nx] at this; omega) (by rw [h.cn]; omega) (by rw [h.b0, h.b1]; show (0 : Int) + 5 < 10 + dd i; omega)
  obtain ⟨c1, c2, c3, c4⟩ := cnt_opn hA
  refine ⟨_, _, (D.st i).refs, Or.inr ⟨i, by omega, rfl, by omega, by rw [k2, l2], rfl, rfl⟩, Or.inr ⟨i, by omega, rfl, by omega, by rw [k2, l2], ho.symm, rfl, rfl⟩, hP, ⟨hI', by show D.nx + 1 = i + 1; rw [h.nx], fun j hj => ?_, h.put, c3.trans h.b0, c4.trans h.b1, by show cntO (D.b.opn _ _).op = _; rw [c1, h.cn], h.K.trans hK⟩⟩
  show (updR D.rq D.nx (rO i (10 + dd i)) j).id = _ ∧ (updR D.rq D.nx (rO i (10 + dd i)) j).dead = _ ∧ (updR D.rq D.nx (rO i (10 + dd i)) j).slot = _ ∧ (updR D.rq D.nx (rO i (10 + dd i)) j).vo = _
  rw [h.nx]
  by_cases e : j = i
  · subst e; rw [updR_self]; exact ⟨rfl, rfl, rfl, rfl⟩
  · rw [updR_ne _ _ e]; exact h.rq j (by omega)
/-- While they are started, taken, finished and reaped. -/
structure OrdB (dd : Nat → Int) (sz tk rp : Nat) (fl : Bool) (AL : List Int) (last : Int) (D : Dv) : Prop where
  I : DvI 5 sz 1 D
  nx : D.nx = 4
  rq : ∀ j, j < 4 → (D.rq j).id = (j : Int) ∧ (D.rq j).dead = 10 + dd j
  vo : ∀ no k, D.pst no = some k → (D.rq k).vo = false
  hput : D.g.put = AL.length
  htk : D.g.taken = tk
  hrp : D.g.reaped = rp
  al : ∀ (j : Nat) id, AL[j]? = some id → (D.g.D j).req = id
  dn : ∀ j, tk ≤ j → j < AL.length → (D.g.D j).dn = false
  dk : rp < tk → (D.g.D rp).dn = fl
  sum : D.q.l.length + AL.length = 4
  ls : last = -1 ∨ (0 ≤ last ∧ last < 4 ∧ ∀ y ∈ D.q.l, 10 + dd last.toNat ≤ y.dead)
theorem ordB_of {dd : Nat → Int} {sz : Nat} {D : Dv} (h : OrdA dd sz 4 D) : OrdB dd sz 0 0 true [] (-1) D := by
  have hc := h.I.c
  have np : ∀ no k, D.pst no ≠ some k := fun no k hp => by
    obtain ⟨m, -, a, b⟩ := hc.psl no k hp
    rw [h.put] at b; omega
  have t := hc.gok.t
  have r := hc.gok.r
  rw [h.put] at t
  refine ⟨h.I, h.nx, fun j hj => ⟨(h.rq j hj).1, (h.rq j hj).2.1⟩, fun no k hp => absurd hp (np no k), h.put, by omega, by omega, fun j id e => by simp at e, fun j _ e => by simp at e, fun e => by omega, ?_, Or.inl rfl⟩
  -- four wait
  have hle : D.q.l.length ≤ 4 := by have := hc.cnt; rw [h.nx] at this; omega
  have hin : ∀ j, j < 4 → (D.rq j).wt ∈ D.q.l := fun j hj => (hc.q _).2 ⟨j, by rw [h.nx]; exact hj, (h.rq j hj).2.2.2, fun no => np no j, rfl⟩
  have key : ∀ m, m ≤ 4 → ∀ l : List od.Wt, (∀ j, j < m → (D.rq j).wt ∈ l) → m ≤ l.length := by
    intro m
    induction m with
    | zero => intro _ l _; omega
    | succ m ih =>
      intro hm l hl
      have h1 := hl m (by omega)
      obtain ⟨i, hi⟩ := List.getElem?_of_mem h1
      have h2 := ih (by omega) (l.eraseIdx i) fun j hj => by
        obtain ⟨i', hi'⟩ := List.getElem?_of_mem (hl j (by omega))
        have ne : i' ≠ i := fun e => by
          rw [e, hi] at hi'
          have := congrArg od.Wt.id (Option.some.inj hi')
          have a := (h.rq j (by omega)).1
          have b := (h.rq m (by omega)).1
          have : (D.rq m).id = (D.rq j).id := this
          omega
        by_cases e : i' < i
        · exact List.mem_of_getElem? (i := i') (by rw [List.getElem?_eraseIdx, if_pos e]; exact hi')
        · exact List.mem_of_getElem? (i := i' - 1) (by rw [List.getElem?_eraseIdx, if_neg (by omega), show i' - 1 + 1 = i' by omega]; exact hi')
      have hi2 : i < l.length := (List.getElem?_eq_some_iff.1 hi).1
      rw [List.length_eraseIdx, if_pos hi2] at h2
      omega
  have := key 4 (Nat.le_refl _) D.q.l hin
  show D.q.l.length + 0 = 4
  omega
theorem ordB_F {dd : Nat → Int} {sz tk rp : Nat} {fl : Bool} {AL : List Int} {last : Int} {D : Dv} (h : OrdB dd sz tk rp fl AL last D) : ∀ x ∈ D.q.l, x.dead = 10 + dd x.id.toNat ∧ 0 ≤ x.id ∧ x.id < 4 := fun x hx => by
  obtain ⟨k, h1, h2, h3, rfl⟩ := (h.I.c.q x).1 hx
  rw [h.nx] at h1
  obtain ⟨a, b⟩ := h.rq k h1
  show (D.rq k).dead = 10 + dd (D.rq k).id.toNat ∧ 0 ≤ (D.rq k).id ∧ (D.rq k).id < 4
  rw [a, b, Int.toNat_natCast]
  omega
/-- Who was the last one, once some were looked at. -/
def lastP (last : Int) (ids : List Int) (i : Nat) (x : Int) : Prop := (i = 0 ∧ x = last) ∨ (0 < i ∧ ids[i - 1]? = some x)
theorem ordB_start {dd : Nat → Int} {sz tk rp : Nat} {fl : Bool} {AL ids : List Int} {last : Int} {D D' : Dv} (h : OrdB dd sz tk rp fl AL last D) (hF : StF sz ids D D') (hI : DvI 5 sz 1 D') (en : D'.nx = D.nx) (er : D'.rq = D.rq) (hS : StS sz ids D D') :
    (∀ x, lastP last ids ids.length x → OrdB dd sz tk rp fl (AL ++ ids) x D') ∧ (∀ (i : Nat) x y, lastP last ids i x → ids[i]? = some y → (0 ≤ y ∧ y < 4) ∧ (x = -1 ∨ (0 ≤ x ∧ x < 4 ∧ dd x.toNat ≤ dd y.toNat))) ∧ (D'.g.put = rp + sz ∨ D'.q.l = []) := by
  have hq := ordB_F h
  obtain ⟨o1, o2⟩ := hF.ord (fun x => 10 + dd x.toNat) fun x hx => (hq x hx).1
  have hl : D'.q.l.length + ids.length = D.q.l.length := hF.len
  have put : D'.g.put = AL.length + ids.length := by rw [hF.put, h.hput]
  have tl := h.I.c.gok.t
  have rl := h.I.c.gok.r
  rw [h.htk, h.hput] at tl
  rw [h.htk, h.hrp] at rl
  have in4 : ∀ y ∈ ids, 0 ≤ y ∧ y < 4 := fun y hy => by
    obtain ⟨x, hx, e⟩ := hF.mem y hy
    have := hq x hx
    omega
  refine ⟨fun x hx => ⟨hI, en.trans h.nx, by rw [er]; exact h.rq, fun no k hp => ?_, by rw [put, List.length_append], hF.taken.trans h.htk, hF.reaped.trans h.hrp, fun j id hj => ?_, fun j h1 h2 => ?_, fun e => ?_, ?_, ?_⟩, fun i x y hx hy => ?_, ?_⟩
  · -- who is posted is open
    obtain ⟨m, rfl, a, b⟩ := hI.c.psl no k hp
    rw [er]
    by_cases e : m < D.g.put
    · rw [hF.pst _ (by omega)] at hp; exact h.vo _ k hp
    · -- a new one
      have hk := (hI.c.pk m k hp).1
      have his := (hI.c.pk m k hp).2.2.req
      rw [er] at his
      rw [en] at hk
      obtain ⟨j, hj⟩ : ∃ j, m = D.g.put + j := ⟨m - D.g.put, by omega⟩
      have hjl : j < ids.length := by rw [hF.put] at b; omega
      have nw := (hF.new j ids[j] (List.getElem?_eq_getElem hjl)).1
      rw [← hj, his] at nw
      obtain ⟨y, hy, e⟩ := hF.mem ids[j] (List.getElem_mem hjl)
      obtain ⟨k2, h1, h2, h3, rfl⟩ := (h.I.c.q y).1 hy
      have e : (D.rq k2).id = ids[j] := e
      have : k = k2 := by
        rw [h.nx] at hk h1
        have a := (h.rq k hk).1
        have b := (h.rq k2 h1).1
        omega
      rw [this]; exact h2
  · rcases Nat.lt_or_ge j AL.length with hlt | hge
    · rw [List.getElem?_append_left hlt] at hj
      rw [hF.old j (by rw [h.hput]; exact hlt)]; exact h.al j id hj
    · rw [List.getElem?_append_right hge] at hj
      have := (hF.new (j - AL.length) id hj).1
      rw [h.hput, show AL.length + (j - AL.length) = j by omega] at this; exact this
  · rw [List.length_append] at h2
    rcases Nat.lt_or_ge j AL.length with hlt | hge
    · rw [hF.old j (by rw [h.hput]; exact hlt)]; exact h.dn j h1 hlt
    · have hjl : j - AL.length < ids.length := by omega
      have := (hF.new (j - AL.length) _ (List.getElem?_eq_getElem hjl)).2
      rw [h.hput, show AL.length + (j - AL.length) = j by omega] at this; exact this
  · rw [hF.old rp (by rw [h.hput]; omega)]; exact h.dk e
  · have := h.sum; rw [List.length_append]; omega
  · rcases hx with ⟨e, rfl⟩ | ⟨e, hx⟩
    · rcases h.ls with e2 | ⟨a, b, c⟩
      · exact Or.inl e2
      · exact Or.inr ⟨a, b, fun y hy => c y (hF.sub y hy)⟩
    · have hm := List.mem_of_getElem? hx
      exact Or.inr ⟨(in4 x hm).1, (in4 x hm).2, fun y hy => o2 x hm y hy⟩
  · have hm := List.mem_of_getElem? hy
    refine ⟨in4 y hm, ?_⟩
    rcases hx with ⟨e, rfl⟩ | ⟨e, hx⟩
    · rcases h.ls with e2 | ⟨a, b, c⟩
      · exact Or.inl e2
      · obtain ⟨z, hz, rfl⟩ := hF.mem y hm
        have := c z hz
        have := (hq z hz).1
        exact Or.inr ⟨a, b, by omega⟩
    · have hm2 := List.mem_of_getElem? hx
      obtain ⟨i1, e1⟩ := List.getElem?_eq_some_iff.1 hx
      obtain ⟨i2, e2⟩ := List.getElem?_eq_some_iff.1 hy
      have := List.pairwise_iff_getElem.1 o1 (i - 1) i i1 i2 (by omega)
      rw [e1, e2] at this
      exact Or.inr ⟨(in4 x hm2).1, (in4 x hm2).2, by omega⟩
  · rcases hF.full with e | e
    · left; rw [e, hF.reaped, h.hrp]
    · exact Or.inr e
theorem ordB_take {dd : Nat → Int} {sz k kk : Nat} {fl : Bool} {AL : List Int} {last : Int} {D : Dv} {st' : Nat → po.Buf} (h : OrdB dd sz k k fl AL last D) (hlt : D.g.taken < D.g.put) (hI : DvI 5 sz 1 (D.tkD 0 ⟨D.g.put, D.g.taken + 1, D.g.reaped, D.g.D⟩ kk st')) :
    OrdB dd sz (k + 1) k false AL last (D.tkD 0 ⟨D.g.put, D.g.taken + 1, D.g.reaped, D.g.D⟩ kk st') := by
  have sm : ∀ j, (updR D.rq kk { D.rq kk with tk := true } j).same (D.rq j) := fun j => updR_same (r := { D.rq kk with tk := true }) ⟨rfl, rfl, rfl, rfl, rfl, rfl, rfl, rfl⟩ j
  have sv : ∀ j, (updR D.rq kk { D.rq kk with tk := true } j).vo = (D.rq j).vo := fun j => by
    unfold updR
    by_cases e : j = kk
    · rw [if_pos e]; subst e; rfl
    · rw [if_neg e]
  unfold Dv.tkD at hI ⊢
  rw [if_pos rfl] at hI ⊢
  rw [h.htk, h.hput] at hlt
  refine ⟨hI, h.nx, fun j hj => ?_, fun no k hp => (sv k).trans (h.vo no k hp), h.hput, by show D.g.taken + 1 = _; rw [h.htk], h.hrp, h.al, fun j h1 h2 => h.dn j (by omega) h2, fun _ => h.dn k (Nat.le_refl _) hlt, h.sum, h.ls⟩
  obtain ⟨a, b⟩ := h.rq j hj
  exact ⟨(sm j).id.trans a, (sm j).dead.trans b⟩
theorem ordB_fin {dd : Nat → Int} {sz k kk : Nat} {AL : List Int} {last f : Int} {D : Dv} {g' : ri.RSt} (h : OrdB dd sz (k + 1) k false AL last D) (hP : ri.FinP D.g (k : Int) 0 f g') (hI : DvI 5 sz 1 (D.finD f g' kk false)) :
    f = 0 ∧ OrdB dd sz (k + 1) k true AL last (D.finD f g' kk false) := by
  rcases hP with ⟨e, -, -⟩ | ⟨-, e, -, -⟩ | ⟨-, h1, h2, h3, rfl, rfl⟩
  · omega
  · rw [h.hrp, h.htk, Int.toNat_natCast, h.dk (by omega)] at e
    rcases e with e | e | e
    · omega
    · omega
    · cases e
  refine ⟨rfl, ?_⟩
  rw [Int.toNat_natCast] at hI ⊢
  obtain ⟨-, -, -, -, -, e6, e7⟩ := finD_same (D := D) (k := kk) 0 ⟨D.g.put, D.g.taken, D.g.reaped, ri.setD D.g.D k ((D.g.D k).fin 0)⟩ false
  have eg : (D.finD 0 ⟨D.g.put, D.g.taken, D.g.reaped, ri.setD D.g.D k ((D.g.D k).fin 0)⟩ kk false).g = ⟨D.g.put, D.g.taken, D.g.reaped, ri.setD D.g.D k ((D.g.D k).fin 0)⟩ := by unfold Dv.finD; rw [if_pos rfl]
  have eq : (D.finD 0 ⟨D.g.put, D.g.taken, D.g.reaped, ri.setD D.g.D k ((D.g.D k).fin 0)⟩ kk false).q = D.q := by unfold Dv.finD; rw [if_pos rfl]
  have en : (D.finD 0 ⟨D.g.put, D.g.taken, D.g.reaped, ri.setD D.g.D k ((D.g.D k).fin 0)⟩ kk false).nx = D.nx := by unfold Dv.finD; rw [if_pos rfl]
  have ek : ri.setD D.g.D k ((D.g.D k).fin 0) k = (D.g.D k).fin 0 := if_pos rfl
  have ej : ∀ j, j ≠ k → ri.setD D.g.D k ((D.g.D k).fin 0) j = D.g.D j := fun j hj => if_neg hj
  refine ⟨hI, en.trans h.nx, fun j hj => ⟨(e7 j).1.id.trans (h.rq j hj).1, (e7 j).1.dead.trans (h.rq j hj).2⟩, fun no k' hp => ?_, by rw [eg]; exact h.hput, by rw [eg]; exact h.htk, by rw [eg]; exact h.hrp, fun j id hj => ?_, fun j h1 h2 => ?_, fun _ => ?_, by rw [eq]; exact h.sum, by rw [eq]; exact h.ls⟩
  · rw [e6] at hp; exact (e7 k').2.trans (h.vo no k' hp)
  · rw [eg]
    show (ri.setD D.g.D k ((D.g.D k).fin 0) j).req = id
    by_cases e : j = k
    · subst e; rw [ek]; exact h.al j id hj
    · rw [ej j e]; exact h.al j id hj
  · rw [eg]; show (ri.setD D.g.D k ((D.g.D k).fin 0) j).dn = false; rw [ej j (by omega)]; exact h.dn j h1 h2
  · rw [eg]; show (ri.setD D.g.D k ((D.g.D k).fin 0) k).dn = true; rw [ek]; rfl
theorem ordB_reap {dd : Nat → Int} {sz k kk : Nat} {AL : List Int} {last f : Int} {D : Dv} {d : ri.Dsc} {g' : ri.RSt} {q' : od.OSt} {st' : Nat → po.Buf} (h : OrdB dd sz (k + 1) k true AL last D) (hP : ri.ReapP D.g d f g') (hk : f = 0 → D.pst (D.g.reaped : Int) = some kk ∧ kk < D.nx ∧ d.req = (D.rq kk).id ∧ 0 ≤ d.st ∧ d.st ≤ 255) (hq : f = 0 → (D.rq kk).vo = false → ∃ f2, od.DropP D.q (D.rq kk).id f2 q') (hI : DvI 5 sz 1 (D.rpD f g' kk d.st q' st')) :
    f = 0 ∧ d.req = (D.g.D k).req ∧ OrdB dd sz (k + 1) (k + 1) true AL last (D.rpD f g' kk d.st q' st') := by
  have tl := h.I.c.gok.t
  rw [h.htk] at tl
  rcases hP with ⟨e, -, -, -⟩ | ⟨-, e, -, -, -⟩ | ⟨-, -, rfl, rfl, rfl⟩
  · rw [h.hrp] at e; omega
  · rw [h.hrp, h.dk (by omega)] at e; cases e
  refine ⟨rfl, by rw [h.hrp], ?_⟩
  obtain ⟨k1, k2, k3, k4⟩ := hk rfl
  have vk := h.vo _ kk k1
  obtain ⟨f2, hd⟩ := hq rfl vk
  have eq : q' = D.q := by
    rcases hd with ⟨-, -, e⟩ | ⟨i, x, h1, h2, -, -⟩
    · exact e
    · obtain ⟨j, j1, j2, j3, rfl⟩ := (h.I.c.q x).1 (List.mem_of_getElem? h1)
      have h2 : (D.rq j).id = (D.rq kk).id := h2
      exact absurd k1 (by rw [h.I.c.pop _ kk j k1 j1 j2 h2.symm]; exact j3 _)
  subst eq
  unfold Dv.rpD at hI ⊢
  rw [if_pos rfl, if_neg (by rw [vk]; exact Bool.false_ne_true)] at hI ⊢
  have sm : ∀ j, (updR D.rq kk { D.rq kk with vo := true } j).same (D.rq j) := fun j => updR_same (r := { D.rq kk with vo := true }) ⟨rfl, rfl, rfl, rfl, rfl, rfl, rfl, rfl⟩ j
  refine ⟨hI, h.nx, fun j hj => ⟨(sm j).id.trans (h.rq j hj).1, (sm j).dead.trans (h.rq j hj).2⟩, fun no k' hp => ?_, h.hput, h.htk, by show D.g.reaped + 1 = _; rw [h.hrp], h.al, h.dn, fun e => absurd e (Nat.lt_irrefl _), h.sum, h.ls⟩
  have hp : updK D.pst (D.g.reaped : Int) none no = some k' := hp
  unfold updK at hp
  by_cases e : no = (D.g.reaped : Int)
  · rw [if_pos e] at hp; cases hp
  · rw [if_neg e] at hp
    have ne : k' ≠ kk := fun ee => e (h.I.c.pid no _ k' kk hp k1 (by rw [ee]))
    show (updR D.rq kk { D.rq kk with vo := true } k').vo = false
    rw [updR_ne _ _ ne]; exact h.vo no k' hp
theorem reapV {n sz : Nat} {G : Int} {D : Dv} {w0 w : World} {S0 : Nat → Prop} {X : List Res} {a : Da} {bp : Nat → Nat} (H : St w0 S0 w (DvL a n sz bp D ++ X)) (hI : DvI n sz G D) :
    Calls Tryz.prog 29 #[ptrV a.d] w fun e w' => ∃ d f g' k q' st', e = .returned (.tuple #[.int .i64 (if f = 0 then d.req else 0), .int .i64 f]) ∧ ri.ReapP D.g d f g' ∧ (f = 0 → D.pst (D.g.reaped : Int) = some k ∧ k < D.nx ∧ d.req = (D.rq k).id ∧ 0 ≤ d.st ∧ d.st ≤ 255) ∧ (f = 0 → (D.rq k).vo = false → ∃ f2, od.DropP D.q (D.rq k).id f2 q') ∧ DvI n sz G (D.rpD f g' k d.st q' st') ∧ KeepS n D.st (D.rpD f g' k d.st q' st').st ∧ St w0 S0 w' (DvL a n sz bp (D.rpD f g' k d.st q' st') ++ X) := by
  obtain ⟨d, f, g', hP⟩ := ri.reapP_ex hI.c.gok
  obtain ⟨h1, h2, k, f2, c, q', st', h3, h4, h5, h6⟩ := hI.reap hP
  have hu := hI.cnu
  have hc := hI.c.cap
  refine (rpD_o (k := k) (f2 := f2) (c := c) (q' := q') (st' := st') H hI.c.gok hI.c.qok hI.c.pok hP h1 h2 (by omega) h3).mono ?_
  rintro e w' ⟨rfl, s⟩
  exact ⟨d, f, g', k, q', st', rfl, hP, fun e => ⟨(h3 e).1, (h3 e).2.1, (h4 e).1, (h4 e).2⟩, fun e hv => ⟨f2, ((h3 e).2.2.2 hv).1⟩, h5, h6, s⟩
theorem walk (a0 a1 a2 a3 s : Int) (w : World) (b0 : 0 ≤ a0 ∧ a0 ≤ 255) (b1 : 0 ≤ a1 ∧ a1 ≤ 255) (b2 : 0 ≤ a2 ∧ a2 ≤ 255) (b3 : 0 ≤ a3 ∧ a3 ≤ 255) (bs : 0 ≤ s ∧ s ≤ 255) :
    Calls Tryz.prog 7 #[.agg #[.int .u8 a0, .int .u8 a1, .int .u8 a2, .int .u8 a3], .int .u8 s] w fun r w' => r = .returned (.bool true) ∧ Below w.heap.size w w' := by
  obtain ⟨dd, hdd⟩ : ∃ dd : Nat → Int, dd = fun j => [a0, a1, a2, a3].getD j 0 := ⟨_, rfl⟩
  have hd : ∀ j, 0 ≤ dd j ∧ dd j ≤ 255 := fun j => by
    rw [hdd]
    match j with
    | 0 => exact b0
    | 1 => exact b1
    | 2 => exact b2
    | 3 => exact b3
    | j + 4 => exact ⟨Int.le_refl _, by show (0 : Int) ≤ 255; omega⟩
  have hc4 : ∀ (j : Nat), j < 4 → (#[.int .u8 a0, .int .u8 a1, .int .u8 a2, .int .u8 a3] : Array Value)[j]? = some (.int .u8 (dd j)) := fun j hj => by
    rw [hdd]
    rcases (show j = 0 ∨ j = 1 ∨ j = 2 ∨ j = 3 by omega) with rfl | rfl | rfl | rfl <;> rfl
  obtain ⟨m, hm⟩ : ∃ m, s % 6 = m := ⟨_, rfl⟩
  have m0 : 0 ≤ m := by omega
  have m1 : m < 6 := by omega
  have cm : Int.tmod s 6 = m := by rw [← hm]; exact Int.tmod_eq_emod_of_nonneg (by omega)
  obtain ⟨sz, hsz⟩ : ∃ sz : Nat, 1 + m = (sz : Int) := ⟨(1 + m).toNat, by omega⟩
  have cs : IntKind.i64.wrap (1 + m) = (sz : Int) := by rw [← hsz]; exact IntWalk.i64_in _ ⟨by omega, by omega⟩
  have z0 : 1 ≤ sz ∧ sz ≤ 64 := by omega
  have SZ := Lib.hid z0
  have HD := Lib.hid hd
  have C4 := Lib.hid hc4
  have sB := (St.begin w).box 101 #[.int .u8 a0, .int .u8 a1, .int .u8 a2, .int .u8 a3]
  rw [List.nil_append] at sB
  have AW := Lib.hid (awake_c (w.alloc (.cells #[.int .u8 a0, .int .u8 a1, .int .u8 a2, .int .u8 a3] 101)))
  obtain ⟨bx, hbx⟩ : ∃ bx, w.heap.size = bx := ⟨_, rfl⟩
  rw [hbx] at sB
  have HBX := Lib.hid hbx
  have SB := Lib.hid sB
  obtain ⟨RX, hRX⟩ : ∃ RX, BlkR bx 101 #[.int .u8 a0, .int .u8 a1, .int .u8 a2, .int .u8 a3] = RX := ⟨_, rfl⟩
  rw [hRX] at SB
  have DC := Lib.hid (show ∀ (V : World) (a : Da) (bq : Nat → Nat) (E : Dv) (Y : List Res), St w None V (DvL a 5 sz bq E ++ ([RX] ++ Y)) → ∀ j : Nat, j < 4 → V.cell? ⟨bx, j, none⟩ = some (.int .u8 (dd j)) from fun V a bq E Y t j hj => by
    rw [← hRX] at t
    rw [(dv_blk t 0 rfl).cell j]; exact C4.out j hj)
  clear hm hsz m0 m1 hd hc4 sB z0 hdd hRX
  go_enter Tryz.func7, Tryz.ntmps7
  go_wp2_with fail
  refine AW.out.mono ?_
  rintro e w0 ⟨rfl, sA⟩
  have s0 : St w None w0 [RX] := SB.out.stay sA.below
  have K0 := Lib.hid (got_c s0)
  clear AW sA s0 SB
  go_wp2_with fail
  refine K0.out.mono ?_
  rintro e w1 ⟨p, rfl, s1⟩
  have K1 := Lib.hid (newD_o (sz := sz) (c := 5) (X := [RX]) (St.comm (A := [RX]) s1) (fun _ => 0) SZ.out.1 SZ.out.2 rfl)
  clear s1 K0 hbx
  go_wp2_with fail
  refine K1.out.mono ?_
  rintro e w2 ⟨a, rfl, rfl, s2⟩
  have S2 := Lib.hid s2
  clear s2 K1 cm cs
  go_wp2_with fail
  go_loopw [8] (fun x8 wr => ∃ (i : Nat) (D : Dv) (bq : Nat → Nat), i ≤ 4 ∧ x8 = .int .i64 (i : Int) ∧ OrdA dd sz i D ∧ St w None wr (DvL a 5 sz bq D ++ [RX])) (fun x8 _ => 4 - (intOf x8).toNat)
  case atStart => exact ⟨0, Dv.new (stG 4) 5, fun _ => 0, by omega, rfl, ordA_new SZ.out, S2.out⟩
  case round =>
  clear S2
  obtain ⟨i, D, bq, hi, rfl, hA, sr⟩ := hrel
  have HA := Lib.hid hA
  by_cases hlt : i < 4
  · obtain ⟨D', z, rf, hz, ho, hP, hA'⟩ := ordA_sub hA hlt HD.out
    have e0 := DC.out _ _ _ _ [] sr i hlt
    obtain ⟨v0, v1⟩ := HD.out i
    obtain ⟨v, hv⟩ : ∃ v, dd i = v := ⟨_, rfl⟩
    rw [hv] at e0 v0 v1 hP
    have K := Lib.hid (show Calls Tryz.prog 18 #[ptrV a.d, .agg #[.int .i64 (i : Int), .int .i64 0, .int .u64 (10 + v), .int .i64 (i : Int), .int .i64 (i : Int), .int .u64 1, .int .i64 0, .int .i64 1]] _ _ from subD_o sr hA.I (rO i (10 + v)) ⟨rfl, rfl, rfl, rfl⟩ (wf_small (by show _ ≤ (i : Int); omega) (by show (i : Int) ≤ _; omega)) (by show 0 ≤ 10 + v; omega) (by show 10 + v ≤ _; omega) hz ho hP)
    have HA' := Lib.hid hA'
    have cw0 : IntKind.u64.wrap v = v := IntWalk.u64_in _ ⟨by omega, by omega⟩
    have cw : IntKind.u64.wrap (10 + v) = 10 + v := IntWalk.u64_in _ ⟨by omega, by omega⟩
    clear hA sr hz ho hP hA' hv
    go_wp2_with fail
    refine K.out.mono ?_
    rintro e w5 ⟨rfl, bq', s5⟩
    have S5 := Lib.hid s5
    clear K s5 e0 v0 v1 cw0 cw
    go_wp2_with fail
    go_roundw
    case rel => exact ⟨i + 1, D', bq', by omega, by go_num, HA'.out, S5.out⟩
    case measure => simp [intOf]; omega
  obtain rfl : i = 4 := by omega
  have S3 := Lib.hid (show St w None wr (DvL a 5 sz bq D ++ ([RX] ++ [LisR 3 1 (.slice none 0 0) 0 (iv [])])) by rw [← List.append_assoc]; exact sr.lis_nil _ _)
  have HB := Lib.hid (ordB_of hA)
  obtain ⟨iI, hiI, hzI, hsI, hbI⟩ := info3w YtcbhhajcgfiigaaGreatiI
  clear sr hA HA hi hlt
  go_wp2_with fail
  go_loopw [9, 10, 11, 12, 13, 14, 15, 16, 17, 18] (fun x9 x10 x11 _ _ _ _ _ _ _ wr => ∃ (k : Nat) (AL : List Int) (last : Int) (fl : Bool) (D : Dv) (bq : Nat → Nat) (B : Option Addr) (c : Nat), x9 = .slice B AL.length c ∧ x10 = .int .i64 last ∧ x11 = .int .i64 (k : Int) ∧ OrdB dd sz k k fl AL last D ∧ St w None wr (DvL a 5 sz bq D ++ ([RX] ++ [LisR 3 1 (.slice B AL.length c) AL.length (iv AL)]))) (fun _ _ x11 _ _ _ _ _ _ _ _ => 8 - (intOf x11).toNat)
  case atStart => exact ⟨0, [], -1, true, D, bq, none, 0, rfl, rfl, rfl, HB.out, S3.out⟩
  case round =>
  clear S3 HB
  obtain ⟨k, AL, last, fl, D, bq, B, c, rfl, rfl, rfl, hB, sr⟩ := hrel
  have hk4 : k ≤ 4 ∧ AL.length ≤ 4 := by
    have a := hB.I.c.gok.t
    have b := hB.sum
    rw [hB.htk, hB.hput] at a
    omega
  have z8 : decide ((k : Int) < 8) = true := decide_eq_true (by omega)
  have z8' : decide (k < 8) = true := decide_eq_true (by omega)
  have HB := Lib.hid hB
  have HK4 := Lib.hid hk4
  have K1 := Lib.hid (startW sr hB.I)
  clear hB sr hk4
  go_wp2_with fail
  refine K1.out.mono ?_
  rintro e w3 ⟨B2, d2, ids, D', rfl, hl64, hS, hF, hI', eb, en, er, eo, es, s3⟩
  obtain ⟨g1, g2, g3⟩ := ordB_start HB.out hF hI' en er hS
  have G1 := Lib.hid g1
  have G2 := Lib.hid g2
  have G3 := Lib.hid g3
  have HI' := Lib.hid hI'
  have HL := Lib.hid hl64
  have S3 := Lib.hid s3
  clear K1 hl64 hS hF hI' eb en er eo es s3 g1 g2 g3 z8 z8'
  obtain ⟨n, hn⟩ : ∃ n, ids.length = n := ⟨_, rfl⟩
  have HN := Lib.hid hn
  rw [hn] at S3 HL ⊢
  clear hn
  go_wp2_with fail
  go_loopw [10, 13] (fun x10 x13 wx => ∃ (i : Nat) (la : Int), x10 = .int .i64 la ∧ x13 = .int .i64 (i : Int) ∧ i ≤ n ∧ lastP last ids i la ∧ St w None wx (DvL a 5 sz bq D' ++ ([RX] ++ [LisR 3 1 (.slice B AL.length c) AL.length (iv AL)] ++ [LisR 3 1 (.slice B2 n d2) n (iv ids)]))) (fun _ x13 _ => n - (intOf x13).toNat)
  case atStart => exact ⟨0, last, rfl, rfl, by omega, Or.inl ⟨rfl, rfl⟩, S3.out⟩
  case round =>
  clear S3
  obtain ⟨i, la, rfl, rfl, hi, hla, sx⟩ := hrel
  have HLA := Lib.hid hla
  by_cases hlt : i < n
  · have i64 : i < 64 := by have := HL.out; omega
    have z1 : decide ((i : Int) < (n : Int)) = true := decide_eq_true (by omega)
    have z1' : decide (i < n) = true := decide_eq_true hlt
    obtain ⟨y, hy⟩ : ∃ y, ids[i]? = some y := ⟨_, List.getElem?_eq_getElem (by rw [HN.out]; exact hlt)⟩
    obtain ⟨⟨y0, y1⟩, hx⟩ := G2.out i la y hla hy
    obtain ⟨ib, off, rfl, hc⟩ := (dv_lis sx 2 rfl).reads.2.resolve_left (by omega)
    have e1 : wr.cell? ⟨ib, off + i, none⟩ = some (.int .i64 y) := hc i _ (iv_get hy)
    have LN := Lib.hid (show lastP last ids (i + 1) y from Or.inr ⟨by omega, by rw [Nat.add_sub_cancel]; exact hy⟩)
    have SX := Lib.hid sx
    rcases hx with rfl | ⟨x0, x1, hle⟩
    · clear hc hla sx hy
      go_wp2_with fail
      go_quiet (fail)
      go_wp2_with fail
      go_roundw
      case rel => exact ⟨i + 1, y, rfl, by go_num, by omega, LN.out, SX.out.drewN _⟩
      case measure => simp [intOf]; omega
    · obtain ⟨p, rfl⟩ := Int.eq_ofNat_of_zero_le x0
      obtain ⟨q, rfl⟩ := Int.eq_ofNat_of_zero_le y0
      have e2 := DC.out _ _ _ _ _ sx p (by omega)
      have e3 := DC.out _ _ _ _ _ sx q (by omega)
      rw [Int.toNat_natCast, Int.toNat_natCast] at hle
      have t0 : decide (0 ≤ (p : Int)) = true := decide_eq_true (by omega)
      have t1 : decide (dd q < dd p) = false := decide_eq_false (by omega)
      have p4 : (p : Int) < 4 := by omega
      have q4 : (q : Int) < 4 := by omega
      have p4' : p < 4 := by omega
      have q4' : q < 4 := by omega
      generalize dd q = dq at *
      generalize dd p = dp at *
      clear hc hla sx hy hle x0 x1 y0 y1
      go_wp2_with fail
      go_quiet (fail)
      go_wp2_with fail
      go_roundw
      case rel => exact ⟨i + 1, (q : Int), rfl, by go_num, by omega, LN.out, SX.out.drewN _⟩
      case measure => simp [intOf]; omega
  obtain rfl : i = n := by omega
  have hla2 := HLA.out
  have hB2 := G1.out la (by rw [HN.out]; exact hla2)
  have HB2 := Lib.hid hB2
  have hsum : AL.length + i ≤ 4 := by have := hB2.sum; rw [List.length_append, HN.out] at this; omega
  have HL2 := Lib.hid (dv_lis sx 1 rfl)
  have HR2 := Lib.hid (dv_lis sx 2 rfl).reads
  have S4 := Lib.hid sx
  have HSM := Lib.hid hsum
  clear sx hla hla2 hlt hi G1 G2 HLA hB2 hsum
  go_wp2_with (first
    | (at_builtin; refine wpList_lis rfl (.tmp 87) (.tmp 88) 63 rfl 3 iI (.int .i64 0) 1 8 Tryz.underlying63 hiI hzI hsI hbI rfl (by decide) _ _ _ rfl HL2.out B2 i d2 (iv ids) rfl HR2.out (iv_one ids) (by have := HSM.out; unfold maxLen; omega) (by have := HSM.out; omega) ?_; intro B' c' w5 hl hg hat; have t5 := (show St w None wr (DvL a 5 sz bq D' ++ ([RX] ++ [LisR 3 1 (.slice B AL.length c) AL.length (iv AL)] ++ [LisR 3 1 (.slice B2 i d2) i (iv ids)])) from S4.out).lis_put 9 rfl hl hg hat; have S5 := Lib.hid (show St w None w5 (DvL a 5 sz bq D' ++ ([RX] ++ [LisR 3 1 (.slice B' (AL.length + i) c') (AL.length + i) (iv (AL ++ ids))] ++ [LisR 3 1 (.slice B2 i d2) i (iv ids)])) by rw [iv_app]; exact t5); clear hl hg hat t5)
    | fail)
  have K2 := Lib.hid (takeW S5.out HB2.out.I)
  clear S4 S5 HL2 HR2
  go_wp2_with fail
  refine K2.out.mono ?_
  rintro e w6 ⟨D3, no, f3, d, rfl, hh, s6⟩
  rcases hh with ⟨he, rfl, rfl, rfl, rfl⟩ | ⟨hlt, rfl, rfl, rfl, kk, st', h4, h5, h6, h7, rfl, h9⟩
  · -- none is left
    have hB3 := HB2.out
    have hq0 : D3.q.l = [] := by
      rcases G3.out with e | e
      · rw [← he, hB3.htk] at e; have := SZ.out; omega
      · exact e
    have hl4 : (AL ++ ids).length = 4 := by have := hB3.sum; rw [hq0] at this; simpa using this
    have hl4 : AL.length + i = 4 := by rw [List.length_append, HN.out] at hl4; exact hl4
    have hput : (D3.g.put : Int) - D3.g.reaped = 0 := by rw [← he, hB3.htk, hB3.hrp]; omega
    have K3 := Lib.hid (countsD_o (s6.alloc (.cells #[.int .i64 0, .int .i64 0, .int .i64 0, .int .u64 0, .int .i64 0, .int .i64 0, .bool false, .bool false, .int .i64 0] 66)) hB3.I.c.qok hB3.I.c.gok)
    rw [hput, hq0] at K3
    have LL := Lib.hid hl4
    rw [hl4]
    clear s6 hB3 hq0 hl4 hput he K2
    unfold ri.dZ ri.Dsc.v
    go_wp2_with fail
    refine K3.out.mono ?_
    rintro e w7 ⟨rfl, s7⟩
    have DN := Lib.hid (s7.take 0).below
    clear s7 K3
    go_wp2_with fail
    go_ret
    exact ⟨rfl, DN.out⟩
  · have hB3 := ordB_take HB2.out hlt h9
    obtain ⟨D4, hD4⟩ : ∃ D4, D'.tkD 0 ⟨D'.g.put, D'.g.taken + 1, D'.g.reaped, D'.g.D⟩ kk st' = D4 := ⟨_, rfl⟩
    rw [hD4] at hB3 s6
    have htk : D'.g.taken = k := HB2.out.htk
    have hal : k < (AL ++ ids).length := by rw [← HB2.out.hput, ← htk]; exact hlt
    obtain ⟨y, hy⟩ : ∃ y, (AL ++ ids)[k]? = some y := ⟨_, List.getElem?_eq_getElem hal⟩
    have hreq := HB2.out.al k y hy
    rw [htk]
    obtain ⟨⟨q1, q2, q3, q4, q5, q6, q7, q8, q9⟩, hq⟩ : ∃ d : ri.Dsc, D'.g.D k = d := ⟨_, rfl⟩
    rw [hq] at hreq ⊢
    obtain rfl : q2 = y := hreq
    unfold ri.Dsc.v
    dsimp only
    have s7 := dv_box s6 66 #[.int .i64 q1, .int .i64 q2, .int .i64 q3, .int .u64 q4, .int .i64 q5, .int .i64 q6, .bool q7, .bool q8, .int .i64 q9]
    obtain ⟨db, hdb⟩ : ∃ db, w6.heap.size = db := ⟨_, rfl⟩
    rw [hdb] at s7
    obtain ⟨xb, hxb⟩ : ∃ xb, BlkR db 66 #[.int .i64 q1, .int .i64 q2, .int .i64 q3, .int .u64 q4, .int .i64 q5, .int .i64 q6, .bool q7, .bool q8, .int .i64 q9] = xb := ⟨_, rfl⟩
    obtain ⟨ab, ao, rfl, hc⟩ := (dv_lis s7 1 rfl).reads.2.resolve_left (by rw [List.length_append, HN.out] at hal; omega)
    have CE := Lib.hid (show ∀ (V : World) (E : Dv), St w None V (DvL a 5 sz bq E ++ (([RX] ++ [LisR 3 1 (.slice (some ⟨ab, ao, none⟩) (AL.length + i) c') (AL.length + i) (iv (AL ++ ids))] ++ [LisR 3 1 (.slice B2 i d2) i (iv ids)]) ++ [BlkR db 66 #[.int .i64 q1, .int .i64 q2, .int .i64 q3, .int .u64 q4, .int .i64 q5, .int .i64 q6, .bool q7, .bool q8, .int .i64 q9]])) → V.cell? ⟨db, 1, none⟩ = some (.int .i64 q2) ∧ V.cell? ⟨ab, ao + k, none⟩ = some (.int .i64 q2) from fun V E t => by
      obtain ⟨ab', ao', hab, hc'⟩ := (dv_lis t 1 rfl).reads.2.resolve_left (by rw [List.length_append, HN.out] at hal; omega)
      injection hab with hab
      injection hab with h1 h2 _
      subst h1 h2
      exact ⟨(dv_blk t 3 rfl).cell 1, hc' k _ (iv_get hy)⟩)
    obtain ⟨v0, v1⟩ := CE.out _ _ s7
    have qq := CE.out _ _ s7
    have kl : (k : Int) < ((AL.length + i : Nat) : Int) := by rw [List.length_append, HN.out] at hal; omega
    have kl2 : (k : Int) < (AL.length : Int) + (i : Int) := by omega
    have kl0 : (0 : Int) ≤ (k : Int) := by omega
    have kl' : k < AL.length + i := by rw [List.length_append, HN.out] at hal; exact hal
    have K3 := Lib.hid (fun (V : World) (t : St w None V _) => finW (no := (k : Int)) (stt := 0) (X := _) (show St w None V (DvL a 5 sz bq D4 ++ (([RX] ++ [LisR 3 1 (.slice (some ⟨ab, ao, none⟩) (AL.length + i) c') (AL.length + i) (iv (AL ++ ids))] ++ [LisR 3 1 (.slice B2 i d2) i (iv ids)]) ++ [BlkR db 66 #[.int .i64 q1, .int .i64 q2, .int .i64 q3, .int .u64 q4, .int .i64 q5, .int .i64 q6, .bool q7, .bool q8, .int .i64 q9]])) from t) hB3.I false (wf_small (by omega) (by have := HK4.out; omega)))
    have HB3 := Lib.hid hB3
    have HY := Lib.hid hy
    have S7 := Lib.hid s7
    clear s6 s7 h4 h5 h6 h7 h9 hq hD4 htk hal hc hxb hlt hy K2
    go_wp2_with fail
    go_region_held3 (fun w' => w'.cell? ⟨db, 1, none⟩ = some (.int .i64 q2) ∧ w'.cell? ⟨ab, ao + k, none⟩ = some (.int .i64 q2)) (go_keep)
      (first
        | (go_at_call 27; refine (K3.out _ S7.out.drew).mono ?_; rintro e w8 ⟨f4, g4, k4, rfl, hP4, -, hI4, s8⟩; obtain ⟨rfl, hB4⟩ := ordB_fin HB3.out hP4 hI4; have HB4 := Lib.hid hB4; have S8 := Lib.hid s8; have q8' := CE.out _ _ s8; clear s8 hB4 hP4 hI4))
    clear hdb
    obtain ⟨D5, hD5⟩ : ∃ D5, D4.finD 0 g4 k4 false = D5 := ⟨_, rfl⟩
    rw [hD5] at HB4 S8
    have K4 := Lib.hid (reapV S8.out HB4.out.I)
    obtain ⟨v0, v1⟩ := CE.out _ _ S8.out
    clear K3 S7 HB3 hD5 qq S8
    go_wp2_with fail
    refine K4.out.mono ?_
    rintro e w9 ⟨d6, f6, g6, k6, q6', st6, rfl, hP6, hk6, hq6, hI6, -, s9⟩
    obtain ⟨rfl, hreq6, hB6⟩ := ordB_reap HB4.out hP6 hk6 hq6 hI6
    rw [if_pos rfl, hreq6, HB4.out.al k q2 HY.out]
    obtain ⟨v2, v3⟩ := CE.out _ _ s9
    have HB6 := Lib.hid hB6
    have S9 := Lib.hid (show St w None w9 (DvL a 5 sz bq _ ++ ([RX] ++ [LisR 3 1 (.slice (some ⟨ab, ao, none⟩) (AL.length + i) c') (AL.length + i) (iv (AL ++ ids))])) from (s9.drop 11 (by simp [DvL])).drop 10 (by simp [DvL]))
    clear s9 hP6 hk6 hq6 hI6 hB6 hreq6 K4 v0 v1
    have k4b := HK4.out.1
    go_wp2_with fail
    go_roundw
    case rel => (repeat apply Exists.intro); exact ⟨⟨k + 1, AL ++ ids, la, true, _, bq, some ⟨ab, ao, none⟩, c', by rw [List.length_append, HN.out], rfl, by go_num, HB6.out, by rw [List.length_append, HN.out]; exact S9.out⟩, rfl⟩
    case measure => have := HK4.out; simp [intOf]; omega

set_option maxRecDepth 100000 in
theorem lifted (os : Os) (started : os.Started) (H : Type) (enc : TypeId × Value → H) :
    ReturnsInHanded {} Tryz.checked os 7 .any (Rows.ioqOrderSpec.pre6 enc Tryz.prog Tryz.f7 Rows.ioqOrderRow.domain false) (Rows.ioqOrderSpec.post enc Tryz.prog Tryz.f7 false true false false) := by
  refine law_lifted (C := Tryz.checked) (tb := 4) own started (by kernel_rfl) Tryz.func7
    (ChangeSpec.witness6 (enc := enc) (C := Tryz.checked) false ⟨#[], #[.agg #[.int .u8 0, .int .u8 0, .int .u8 0, .int .u8 0], .int .u8 0], []⟩ 8 (by kernel_rfl) (by kernel_rfl) (by kernel_rfl) (by kernel_rfl)) laid (by kernel_rfl) (by kernel_rfl) Tryz.underlying4 rfl ?_
  intro W base args ds ps hval0 hA0 hlt
  have hval : ∀ (j : Nat) t v, Tryz.f7.params[j]? = some t → args[j]? = some v → Value.okWide Tryz.prog W .any base t v := hval0
  have hA : DataW.TrodAll enc Tryz.prog W 0 (fun _ => true) true Tryz.f7.params.toList args.toList ds ps := hA0
  clear hA0 hval0
  rw [Tryz.params7] at hA hval
  obtain ⟨v0, vs0, d0, ds0, p0, q0, hargs, rfl, rfl, h0, r0⟩ := trodAll_cons hA
  obtain ⟨v1, vs1, d1, ds1, p1, q1, rfl, rfl, rfl, h1, r1⟩ := trodAll_cons r0
  obtain ⟨rfl, rfl, rfl⟩ := trodAll_nil r1
  obtain rfl : args = #[v0, v1] := by cases args; simp_all
  obtain ⟨cs0, rfl, sz0, ok0⟩ := open_flat (ts := [5, 5, 5, 5]) (Or.inr ⟨_, _, Tryz.underlying101⟩) (by kernel_rfl) (by kernel_rfl) (hval 0 101 v0 rfl rfl)
  obtain ⟨c0_0, c0_1, c0_2, c0_3, rfl⟩ := size4 sz0
  obtain ⟨a0_0, rfl, w0_0⟩ := cell_int Tryz.underlying5 (ok0 0 _ _ rfl rfl)
  obtain ⟨a0_1, rfl, w0_1⟩ := cell_int Tryz.underlying5 (ok0 1 _ _ rfl rfl)
  obtain ⟨a0_2, rfl, w0_2⟩ := cell_int Tryz.underlying5 (ok0 2 _ _ rfl rfl)
  obtain ⟨a0_3, rfl, w0_3⟩ := cell_int Tryz.underlying5 (ok0 3 _ _ rfl rfl)
  obtain ⟨a1, rfl, rfl, rfl, w1⟩ := open_int Tryz.underlying5 (hval 1 5 v1 rfl rfl) h1
  refine ⟨⟨rfl, rfl, rfl⟩, ?_⟩
  exact walk a0_0 a0_1 a0_2 a0_3 a1 W (bounds_u8 w0_0) (bounds_u8 w0_1) (bounds_u8 w0_2) (bounds_u8 w0_3) (bounds_u8 w1)

theorem over : Rows.ioqOrderRow.holds Tryz.pinned (OpenSpec.ofChange Rows.ioqOrderSpec) :=
  OpenClaim.holds_of_wide 7 Tryz.f7 rfl rfl rfl rfl rfl rfl rfl ⟨rfl, rfl, rfl, rfl, rfl⟩ rfl rfl rfl rfl rfl (by kernel_rfl) Tryz.func7 (by kernel_rfl)
    (of_decide_eq_true (by kernel_rfl)) (by unfold Func.isWrapper; first | (rw [if_pos (by decide +kernel)]; kernel_rfl) | (rw [if_neg (by decide +kernel)]; exact ⟨rfl, rfl⟩))
    (fun os started H enc _ => lifted os started H enc)
theorem proved : Rows.IoqOrderSaid := over
#print axioms proved
end Go.Proofs.YtcbhhajcgfiigaaGreat.ioqOrder
