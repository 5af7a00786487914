/- Layer 24: slots, one behind another, of one request, with a bus of one master. -/
import Derived.Test.YtdjhpdacglojaaaGreatEngI
namespace Go.Proofs.YtdjhpdacglojaaaGreat
open Go.RowKit
set_option linter.unusedVariables false
set_option maxRecDepth 100000
set_option maxHeartbeats 1600000
theorem updB_same2 {st : Nat → po.Buf} {i : Nat} {a b : po.Buf} : po.updB (po.updB st i a) i b = po.updB st i b := by
  funext j
  by_cases e : j = i
  · rw [e, po.updB_self, po.updB_self]
  · rw [po.updB_ne _ _ e, po.updB_ne _ _ e, po.updB_ne _ _ e]
theorem wrS_nil (st : Nat → po.Buf) (i a : Nat) : wrS st i a [] = st := by
  unfold wrS
  funext j
  by_cases e : j = i
  · rw [e, po.updB_self]; simp
  · rw [po.updB_ne _ _ e]
theorem wrS_app (st : Nat → po.Buf) (i a : Nat) (xs : List Int) (x : Int) (h : a + xs.length + 1 ≤ (st i).bs.length) : wrS (wrS st i a xs) i (a + xs.length) [x] = wrS st i a (xs ++ [x]) := by
  unfold wrS
  rw [updB_same2, po.updB_self]
  dsimp only
  congr 2
  have h1 : ((st i).bs.take a).length = a := by rw [List.length_take]; omega
  rw [show List.take (a + xs.length) ((st i).bs.take a ++ (xs ++ (st i).bs.drop (a + xs.length))) = (st i).bs.take a ++ xs from by
      rw [← List.append_assoc]; exact List.take_left' (by rw [List.length_append, h1]),
    show List.drop (a + xs.length + [x].length) ((st i).bs.take a ++ (xs ++ (st i).bs.drop (a + xs.length))) = (st i).bs.drop (a + (xs ++ [x]).length) from by
      rw [← List.append_assoc, ← List.drop_drop, List.drop_left' (by rw [List.length_append, h1]), List.drop_drop, List.length_append, List.length_singleton]; rfl]
  simp [List.append_assoc]
section
variable {n sz : Nat} {G : Int} {st0 : Nat → po.Buf} {r : Rq} {c t0 now : Int} {D D2 : Dv} {bad : Bool} {stt : Int} {un : List Ft} {C : bs.BC} {l : List Int} {m m2 : Mv} {s s' s1 : bs.BS} {v f : Int} {i : Nat}
/-- Of one request k bytes are written. -/
def EgP (n sz : Nat) (G : Int) (st0 : Nat → po.Buf) (r : Rq) (c t0 : Int) (i : Nat) (x : Nat → Int) (k : Nat) (D : Dv) (m : Mv) : Prop :=
  (k = 0 ∧ m = idleV ∧ OneF n sz G st0 r c t0 D 1 0 0 false false false 0 []) ∨
  (0 < k ∧ (k : Int) < r.len ∧ m = ⟨0, k, r.len⟩ ∧ OneF n sz G (wrS st0 i r.frm.toNat ((List.range k).map x)) r c t0 D 1 1 0 false false false 0 []) ∨
  (0 < k ∧ (k : Int) = r.len ∧ m = idleV ∧ OneF n sz G (wrS st0 i r.frm.toNat ((List.range k).map x)) r c t0 D 1 1 0 true false false 0 [])
theorem EgP.step {x : Nat → Int} {k : Nat} {xk : Int} (P : EgP n sz G st0 r c t0 i x k D m) (hk : (k : Int) < r.len) (hx : x k = xk) (hi : i < n) (hs : r.slot = (i : Int)) (hf : 0 ≤ r.frm) (hl : r.frm + r.len ≤ (st0 i).bs.length)
    (hS : bs.SlotR C s now (bs.okB (l ++ [0]).length (fE (l ++ [0])) C.n) (bs.wantB (l ++ [0]).length (fE (l ++ [0]))) 0 0 s1)
    (h : SlE n sz G C 0 xk now l D m s v f D2 m2 s') (hI2 : DvI n sz G D2) :
    v = 0 ∧ f = 0 ∧ s' = s1 ∧ EgP n sz G st0 r c t0 i x (k + 1) D2 m2 := by
  obtain ⟨D1, m1, h1, hI1, hm1, hR, h2⟩ := h
  obtain ⟨hm, O1⟩ : m1 = ⟨0, (k : Int), r.len⟩ ∧ OneF n sz G (wrS st0 i r.frm.toNat ((List.range k).map x)) r c t0 D1 1 1 0 false false false 0 [] := by
    rcases P with ⟨rfl, rfl, O⟩ | ⟨h0, hk2, rfl, O⟩ | ⟨h0, hk2, -, -⟩
    · rcases h1 with ⟨-, h1⟩ | ⟨e, -⟩
      · rcases h1 with ⟨e, -⟩ | ⟨-, hm, k, st', k1, k2, k3, k4, rfl⟩
        · rw [O.htaken, O.hput] at e; omega
        have O1 := O.take k1 k3 hI1 k4
        have hd := O.is0.1.len
        rw [O.htaken] at hm
        rw [O.same.len] at hd
        rw [hd] at hm
        refine ⟨hm, ?_⟩
        rw [show (List.range 0).map x = [] from rfl, wrS_nil]
        exact O1
      · exact absurd e (by decide)
    · rcases h1 with ⟨e, -⟩ | ⟨-, rfl, rfl⟩
      · exact absurd (show (0 : Int) < 0 from e) (by omega)
      · exact ⟨rfl, O⟩
    · omega
  subst hm
  rw [show wantsE l ⟨0, (k : Int), r.len⟩ 0 = l ++ [0] from if_pos (by show (0 : Int) ≤ 0; omega)] at hR
  obtain ⟨rfl, rfl, rfl⟩ := slotR_det hR hS
  rcases h2 with ⟨e, -⟩ | ⟨-, cw, st2, hP, h3⟩
  · exact absurd ⟨rfl, rfl, by show (0 : Int) ≤ 0; omega⟩ e
  have hP : WrP n _ 0 (k : Int) [xk] cw st2 := hP
  obtain ⟨rfl, O2⟩ := (O1.write hi hs hP (hI1.wr hP).1).1 ⟨by omega, by omega, by simp; omega⟩
  have e2 : wrS (wrS st0 i r.frm.toNat ((List.range k).map x)) i (r.frm + (k : Int)).toNat [xk] = wrS st0 i r.frm.toNat ((List.range (k + 1)).map x) := by
    rw [List.range_succ, List.map_append, show [k].map x = [xk] from by simp [hx], ← wrS_app]
    · congr 1
      simp; omega
    · simp; omega
  rw [e2] at O2
  rcases h3 with ⟨e, -⟩ | ⟨-, e, rfl, rfl⟩ | ⟨-, e, ⟨f', g', k', hF, hk', rfl⟩, rfl⟩
  · exact absurd rfl e
  · refine ⟨rfl, rfl, rfl, Or.inr (Or.inl ⟨by omega, by push_cast; exact e, ?_, O2⟩)⟩
    push_cast; rfl
  · obtain ⟨rfl, O3⟩ := O2.fin false ⟨by omega, by omega⟩ hF hk' hI2
    refine ⟨rfl, rfl, rfl, Or.inr (Or.inr ⟨by omega, ?_, rfl, O3⟩)⟩
    have e : ¬ (k : Int) + 1 < r.len := e
    omega
end
/-! ### A bus of one master, whose share is all. -/
def wc : bs.BC := ⟨1, fun _ => 0, fun _ => 0, fun _ => 9, fun _ => 9, 0⟩
theorem wc_ok : wc.OK := ⟨by decide, by decide, fun _ _ => by show (0 : Int) ≤ 0 ∧ (0 : Int) ≤ 100; omega, fun _ _ => by show (0 : Int) ≤ 0 ∧ (0 : Int) ≤ 1000; omega, fun _ _ => by show (1 : Int) ≤ 9 ∧ (9 : Int) ≤ 9 ∧ (9 : Int) ≤ 1099511627776; omega, by decide⟩
/-- The first k slots were had. -/
def WJ (k : Nat) (s : bs.BS) : Prop := s.OK wc k ∧ s.ws 0 = List.replicate k (0, 1) ∧ s.next = k
theorem WJ.zero : WJ 0 (bs.bs0 0) := ⟨bs.bs0_ok wc_ok, rfl, rfl⟩
theorem wj_sw : ∀ k : Nat, k < 9 → 0 < 9 - bs.sw (((k : Int) - 0) / 9) (List.replicate k (0, 1)) := by decide
theorem wj_K : ∀ k : Nat, k < 9 → ((k : Int) - 0) / 9 = 0 := by decide
theorem WJ.step {k : Nat} {s : bs.BS} (h : WJ k s) (hk : k < 9) : ∃ s', bs.SlotR wc s k (bs.okB ([] ++ [0] : List Int).length (fE ([] ++ [0])) wc.n) (bs.wantB ([] ++ [0] : List Int).length (fE ([] ++ [0]))) 0 0 s' ∧ WJ (k + 1) s' := by
  obtain ⟨h1, h2, h3⟩ := h
  have hb : bs.best wc s k (bs.wantB 1 (fE [0])) = ((0 : Nat) : Int) := by
    unfold bs.best
    refine bs.fst_yes (k := 0) ?_ (Or.inl rfl)
    have e1 : bs.wantB 1 (fE [0]) 0 = true := by decide
    have e2 : decide (0 < wc.left s.ws 0 (k : Int)) = true := decide_eq_true (by
      unfold bs.BC.left bs.BC.K
      rw [h2]
      exact wj_sw k hk)
    show (bs.wantB 1 (fE [0]) 0 && bs.mayB _ _ _ _ _ _) = true
    unfold bs.mayB
    rw [e1, e2]
    rfl
  have hR : bs.SlotR wc s k (bs.okB 1 (fE [0]) 1) (bs.wantB 1 (fE [0])) ((0 : Nat) : Int) 0 _ := Or.inr (Or.inr (Or.inr ⟨by omega, by decide, by rw [h3]; omega, 0, by decide, hb, rfl, rfl, rfl⟩))
  refine ⟨_, hR, hR.next h1, ?_, ?_⟩
  · show bs.upd s.ws 0 (s.ws 0 ++ [(wc.K 0 k, 1)]) 0 = _
    unfold bs.upd
    rw [if_pos rfl, h2, show wc.K 0 (k : Int) = 0 from wj_K k hk, List.replicate_succ']
  · show (k : Int) + 1 = ((k + 1 : Nat) : Int)
    omega
theorem WJ.none {k : Nat} {s : bs.BS} (h : WJ k s) (hk : k < 9) : ∃ s1, bs.SlotR wc s 10 (bs.okB ([] : List Int).length (fE []) wc.n) (bs.wantB ([] : List Int).length (fE [])) 0 5 s1 := by
  obtain ⟨h1, h2, h3⟩ := h
  have hb : bs.best wc s 10 (bs.wantB 0 (fE [])) = -1 := by
    unfold bs.best
    show bs.fst _ _ 1 = -1
    rw [bs.fst_no (k := 0)]
    · rfl
    · rintro ⟨e, -⟩
      have e1 : bs.wantB 0 (fE []) 0 = false := by decide
      have e : (bs.wantB 0 (fE []) 0 && bs.mayB _ _ _ _ _ _) = true := e
      rw [e1] at e
      cases e
  exact ⟨_, Or.inr (Or.inr (Or.inl ⟨by omega, by decide, by rw [h3]; omega, hb, rfl, rfl, rfl⟩))⟩
def V1 (p u B P : Int) (j i : Nat) : Value := if i = 0 then .int .i64 p else if i = 1 then .int .i64 u else if i = 2 then .int .u64 B else .int .u64 P
theorem v1_mv (p u B P ph : Int) : bs.MV ⟨1, fun _ => p, fun _ => u, fun _ => B, fun _ => P, ph⟩ (V1 p u B P) := ⟨fun j _ => rfl, fun j _ => rfl, fun j _ => rfl, fun j _ => rfl⟩
theorem v1_rd (w : World) (t : TypeId) (p u B P : Int) : RdM (w.alloc (.cells #[.int .i64 p, .int .i64 u, .int .u64 B, .int .u64 P] t)) (some ⟨w.heap.size, 0, none⟩) 1 4 (V1 p u B P) :=
  bs.rdm_new w t _ 1 4 _ (fun j hj i hi => by
    match j, hj, i, hi with
    | 0, _, 0, _ | 0, _, 1, _ | 0, _, 2, _ | 0, _, 3, _ => rfl
    | j + 1, h, _, _ => omega
    | 0, _, i + 4, h => omega)
/-- With names of their own. -/
theorem wchain : ∃ (C : bs.BC) (J : Nat → bs.BS → Prop), C.OK ∧ C.n = 1 ∧ C.ph = 0 ∧ bs.MV C (V1 0 0 9 9) ∧ J 0 (bs.bs0 0) ∧ (∀ k s, J k s → s.OK C k) ∧
    (∀ (k : Nat) s, J k s → k < 9 → ∃ s', bs.SlotR C s k (bs.okB ([] ++ [0] : List Int).length (fE ([] ++ [0])) C.n) (bs.wantB ([] ++ [0] : List Int).length (fE ([] ++ [0]))) 0 0 s' ∧ J (k + 1) s') ∧
    ∀ (k : Nat) s, J k s → k < 9 → ∃ s1, bs.SlotR C s 10 (bs.okB ([] : List Int).length (fE []) C.n) (bs.wantB ([] : List Int).length (fE [])) 0 5 s1 :=
  ⟨wc, WJ, wc_ok, rfl, rfl, v1_mv 0 0 9 9 0, WJ.zero, fun k s h => h.1, fun k s h hk => h.step hk, fun k s h hk => h.none hk⟩
end Go.Proofs.YtdjhpdacglojaaaGreat
