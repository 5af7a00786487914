/- Layer 8: in which piece a byte is. -/
import Derived.Test.YtiaojhjghededaaPieL
import Derived.Test.YtiaojhjghededaaRfb
namespace Go.Proofs.Ytiaojhjghededaa
open Go.RowKit Go.Shelf
set_option linter.unusedVariables false
set_option maxRecDepth 100000
set_option maxHeartbeats 4000000
attribute [local go_sem] Oper.semAt_some
def hitX (a : Int) (x : Int × Pc) : Bool := decide (x.1 ≤ a) && decide (wrap64 (a - x.1) < x.2.m)
/-- Which piece it is, and where in its buffer; 6: none. -/
def findX (a : Int) (ys : List (Int × Pc)) : Int × Int × Int := match ys.findIdx? (hitX a) with
  | none => (0, 0, 6)
  | some j => ((j : Int), (match ys[j]? with | none => 0 | some x => wrap64 (wrap64 (x.2.f + a) - x.1)), 0)
theorem findX_none {a : Int} {ys : List (Int × Pc)} (h : ∀ x ∈ ys, hitX a x = false) : findX a ys = (0, 0, 6) := by
  unfold findX
  rw [List.findIdx?_eq_none_iff.2 h]
theorem findX_some {a : Int} {ys zs : List (Int × Pc)} {x : Int × Pc} (h : ∀ y ∈ ys, hitX a y = false) (hx : hitX a x = true) : findX a (ys ++ x :: zs) = ((ys.length : Int), wrap64 (wrap64 (x.2.f + a) - x.1), 0) := by
  unfold findX
  have : (ys ++ x :: zs).findIdx? (hitX a) = some ys.length := by
    rw [List.findIdx?_append, List.findIdx?_eq_none_iff.2 h, List.findIdx?_cons, hx]
    simp
  rw [this]
  dsimp only
  rw [List.getElem?_append_right (Nat.le_refl _), Nat.sub_self]
  rfl
def noHit (a : Int) (ys : List (Int × Pc)) : Prop := ∀ x ∈ ys, hitX a x = false
theorem noHit_snoc {a : Int} {ys : List (Int × Pc)} {x : Int × Pc} (h : noHit a ys) (hx : hitX a x = false) : noHit a (ys ++ [x]) := fun y hy => by
  rcases List.mem_append.1 hy with hy | hy
  · exact h y hy
  · rw [List.mem_singleton.1 hy]; exact hx
theorem comeP_pre (ps : List Pc) {k : Nat} (hk : k ≤ ps.length) : ∃ r, comeP ps ps.length = comeP ps k ++ r := by
  obtain ⟨d, hd⟩ : ∃ d, ps.length = k + d := ⟨ps.length - k, by omega⟩
  rw [hd]
  unfold comeP
  rw [List.range_add, List.map_append]
  exact ⟨_, rfl⟩
@[reducible] def fdL (b : Nat) (a n r1 r2 r3 : Int) : List Res := [BlkR b 3 #[.int .i64 a], BlkR (b + 1) 3 #[.int .i64 r1], BlkR (b + 1 + 1) 3 #[.int .i64 r2], BlkR (b + 1 + 1 + 1) 30 #[.int .i64 r3], BlkR (b + 1 + 1 + 1 + 1) 3 #[.int .i64 n]]
theorem fdL_cy (b : Nat) (a n r1 r2 r3 : Int) : ∀ R ∈ fdL b a n r1 r2 r3, Cy 42 R := Cy.cons (Cy.blk _ _ _ (by decide)) (Cy.cons (Cy.blk _ _ _ (by decide)) (Cy.cons (Cy.blk _ _ _ (by decide)) (Cy.cons (Cy.blk _ _ _ (by decide)) (Cy.cons (Cy.blk _ _ _ (by decide)) Cy.nil))))
theorem find_o (A : Option Addr) (cap : Nat) (ps : List Pc) (a : Int) (w : World) (hlen : ps.length ≤ 1000) (hwf : ∀ p ∈ ps, p.wf) (hR : RdP w A ps) :
    Calls Try.prog 14 #[.slice A ps.length cap, .int .i64 a] w fun e w' => e = .returned (.tuple #[.int .i64 (findX a (comeP ps ps.length)).1, .int .i64 (findX a (comeP ps ps.length)).2.1, .int .i64 (findX a (comeP ps ps.length)).2.2]) ∧ Below w.heap.size w w' := by
  obtain ⟨F, hF⟩ : ∃ F, findX a (comeP ps ps.length) = F := ⟨_, rfl⟩
  rw [hF]
  have HF := Lib.hid hF
  clear hF
  refine (callsIn_wide (n := 6)).1 ?_
  refine callsIn_of_wp_marks Try.func14 rfl trivial ?_ rfl
  simp only [Try.ntmps14, List.size_toArray, List.length_cons, List.length_nil, Nat.reduceAdd, Nat.reduceSub, Array.replicate_succ, Array.replicate_zero, List.push_toArray, List.append_toArray, List.nil_append, List.cons_append]
  have s0 := (((((St.begin w).box 3 #[.int .i64 a]).box 3 #[.int .i64 0]).box 3 #[.int .i64 0]).box 30 #[.int .i64 0]).box 3 #[.int .i64 0]
  simp only [World.size_alloc, List.nil_append, List.cons_append] at s0
  gi_wp2_with (refine ⟨trivial, ?_⟩; gi_at_call 26; refine (callsIn_wide.2 (parts_o _ _ _ _)).mono ?_; rintro e w' ⟨rfl, rfl⟩)
  have s1 := s0.alloc (.cells #[.slice A ps.length cap] 22)
  obtain ⟨V, hV⟩ : ∃ V, ((((w.alloc (.cells #[.int .i64 a] 3)).alloc (.cells #[.int .i64 0] 3)).alloc (.cells #[.int .i64 0] 3)).alloc (.cells #[.int .i64 0] 30)).alloc (.cells #[.int .i64 0] 3) = V := ⟨_, rfl⟩
  have hVs : V.heap.size = w.heap.size + 1 + 1 + 1 + 1 + 1 := by rw [← hV]; simp
  rw [hV] at s0 s1 ⊢
  have bL := Boxed.new V 22 (.slice A ps.length cap)
  obtain ⟨W0, hW0⟩ : ∃ W0, V.alloc (.cells #[.slice A ps.length cap] 22) = W0 := ⟨_, rfl⟩
  have hsz : W0.heap.size = w.heap.size + 1 + 1 + 1 + 1 + 1 + 1 := by rw [← hW0]; simp [hVs]
  rw [hW0] at s1 bL ⊢
  rw [hVs] at bL
  clear hW0 hV s0
  refine wpIn_rangeFunc_ownH rfl (by omega) (gf := 37) (lb := #[.pointer (some ⟨w.heap.size + 1 + 1 + 1 + 1 + 1, 0, none⟩)]) rfl trivial (enters_of Try.func37 (by kernel_rfl) rfl)
    (parts_stops Fence.wide 5 trivial rfl (by omega) (w.heap.size + 1 + 1 + 1 + 1 + 1) cap A ps (by omega) hwf (rowK A w.heap.size) (rowK_of hR) W0 (fun b hb => by have := hb.2; omega) (by omega) bL.cell (hR.on s1.below)) KpB.trans (fun W l o o' hl ho hc _ => KpB.put (B := w.heap.size) (fun b hb => hb.2) W l o o' (by omega) ho hc) (Below.refl _ _) (fun _ => rfl)
    (fun pre W => St w None W (fdL w.heap.size a pre.length 0 0 0) ∧ noHit a pre)
    (fun c pre W => c = .ret ∧ ∃ pre' x, pre = pre' ++ [x] ∧ noHit a pre' ∧ hitX a x = true ∧ St w None W (fdL w.heap.size a pre'.length pre'.length (wrap64 (wrap64 (x.2.f + a) - x.1)) 0))
    (fun s X Y row hs hg hr => ⟨hs.1.own (fdL_cy _ _ _ _ _ _) (by omega) hg hr, hs.2⟩)
    (fun c s X Y row hs hg hr => by
      obtain ⟨h1, pre', x, h2, h3, h4, h5⟩ := hs
      exact ⟨h1, pre', x, h2, h3, h4, h5.own (fdL_cy _ _ _ _ _ _) (by omega) hg hr⟩)
    ⟨s1, fun x hx => (by cases hx)⟩
    (fun x a' W => ∃ Bx, w.heap.size + 1 + 1 + 1 + 1 < Bx ∧ (∃ c0 c1, W.heap[Bx]? = some (Obj.cells #[c0, c1, .int .i64 x.2.f, .int .i64 x.2.m] 42 (0, 0))) ∧ a' = { tmps := #[.slice A ps.length cap, .int .i64 a, undef, .pointer (some ⟨w.heap.size, 0, none⟩), .pointer (some ⟨w.heap.size + 1, 0, none⟩), .pointer (some ⟨w.heap.size + 1 + 1, 0, none⟩), .pointer (some ⟨w.heap.size + 1 + 1 + 1, 0, none⟩), .pointer (some ⟨w.heap.size + 1 + 1 + 1 + 1, 0, none⟩), .int .i64 x.1, .pointer (some ⟨Bx, 0, none⟩), .slice A ps.length cap, .func (.func 37) #[] #[.pointer (some ⟨w.heap.size + 1 + 1 + 1 + 1 + 1, 0, none⟩)], .int .i64 x.1, .agg #[.int .i64 x.2.s, .int .u64 x.2.g, .int .i64 x.2.f, .int .i64 x.2.m], undef, undef, undef, undef, undef, undef, undef, undef, undef, undef, undef, undef, undef, undef, undef, undef, undef, undef, undef, undef], defers := [] })
    (fun x a' _ X Y row hs hg hr => by
      obtain ⟨Bx, h1, ⟨c0, c1, h2⟩, h3⟩ := hs
      refine ⟨Bx, h1, ⟨c0, c1, ?_⟩, h3⟩
      rw [hg.block Bx (Array.getElem?_eq_some_iff.1 h2).1 (fun e => ?_)]
      · exact h2
      · obtain ⟨_, o, ho, hc⟩ := hr Bx e.symm
        rw [h2] at ho
        injection ho with ho
        subst ho
        cases hc)
    ?assign ?body ?done ?stop
  case assign =>
    rintro l pre x W K ⟨hst, hpre⟩ hK
    unfold encP
    gi_wp2
    exact hK _ _ ((KeepsOthers.alloc _ _).from _) (KpB.below ((Below.refl _ W).alloc (Nat.le_refl _) _) (fun b hb => Nat.lt_of_lt_of_le hb.2 hst.below.size)) ⟨hst.alloc _, hpre⟩ ⟨W.heap.size, (hst.blk 4 rfl).lt, ⟨_, _, World.alloc_heap_new W _⟩, rfl⟩
  case body =>
    rintro l pre x a' W hl ⟨r, hr⟩ ⟨hst, hpre⟩ ⟨Bx, hBx, ⟨c0, c1, hc⟩, rfl⟩ hlt
    have c2 : W.cell? ⟨Bx, 2, none⟩ = some (.int .i64 x.2.f) := by simp [World.cell?, hc]
    have c3 : W.cell? ⟨Bx, 3, none⟩ = some (.int .i64 x.2.m) := by simp [World.cell?, hc]
    obtain ⟨S, H, fin⟩ := hst.apart (fdL_cy _ _ _ _ _ _)
    have q0 := (H.blk 0 rfl).one
    have q4 := (H.blk 4 rfl).one
    have q1 := (H.blk 1 rfl).one
    have q2 := (H.blk 2 rfl).one
    have q3 := (H.blk 3 rfl).one
    have f1 := (H.blk 1 rfl).frozen
    have f2 := (H.blk 2 rfl).frozen
    have f3 := (H.blk 3 rfl).frozen
    have f4 := (H.blk 4 rfl).frozen
    have FIN := Lib.hid fin
    have HH := Lib.hid H
    have HPRE := Lib.hid hpre
    clear fin H hpre hst hc hl hr
    by_cases h1 : x.1 ≤ a
    · have z1 : decide (x.1 ≤ a) = true := decide_eq_true h1
      by_cases h2 : wrap64 (a - x.1) < x.2.m
      · have z2 : decide (wrap64 (a - x.1) < x.2.m) = true := decide_eq_true h2
        have hx : hitX a x = true := by unfold hitX; rw [z1, z2]; rfl
        have S6 := Lib.hid (((HH.out.drew.set_ 1 rfl 0 (.int .i64 (pre.length : Int))).set_ 2 rfl 0 (.int .i64 (wrap64 (wrap64 (x.2.f + a) - x.1)))).set_ 3 rfl 0 (.int .i64 0))
        gi_wp2
        have SS : ∀ (V : World) (b : Nat) (u : Value), (V.cell? ⟨w.heap.size, 0, none⟩ = some (.int .i64 a) ∧ V.cell? ⟨w.heap.size + 1 + 1 + 1 + 1, 0, none⟩ = some (.int .i64 pre.length) ∧ V.cell? ⟨Bx, 2, none⟩ = some (.int .i64 x.2.f)) → w.heap.size < b → b < w.heap.size + 1 + 1 + 1 + 1 → ((V.setCell ⟨b, 0, none⟩ u).cell? ⟨w.heap.size, 0, none⟩ = some (.int .i64 a) ∧ (V.setCell ⟨b, 0, none⟩ u).cell? ⟨w.heap.size + 1 + 1 + 1 + 1, 0, none⟩ = some (.int .i64 pre.length) ∧ (V.setCell ⟨b, 0, none⟩ u).cell? ⟨Bx, 2, none⟩ = some (.int .i64 x.2.f)) := fun V b u h h1 h2 => by
          rw [World.cell?_setCell_far _ _ _ _ (by show b ≠ w.heap.size; omega), World.cell?_setCell_far _ _ _ _ (by show b ≠ w.heap.size + 1 + 1 + 1 + 1; omega), World.cell?_setCell_far _ _ _ _ (by show b ≠ Bx; omega)]
          exact h
        have HSS := Lib.hid SS
        clear SS
        refine round_region (S := fun V => V.cell? ⟨w.heap.size, 0, none⟩ = some (.int .i64 a) ∧ V.cell? ⟨w.heap.size + 1 + 1 + 1 + 1, 0, none⟩ = some (.int .i64 pre.length) ∧ V.cell? ⟨Bx, 2, none⟩ = some (.int .i64 x.2.f)) (hnd_of (by kernel_rfl)) (by rintro ⟨_, _, h⟩; exact h) (by kernel_rfl) ⟨q0, q4, c2⟩ (fun hHeld => ?_)
        refine wpAnyH_take (i := 0) (oi := { dst := some 25, op := Op.load 3 (Operand.tmp 7), type := 3, pos := "pieces.go:41", after := #[], guard := none }) (v := ?_) rfl (by kernel_rfl) (by kernel_rfl) (by kernel_rfl) (fun _ _ _ h => h) (Or.inl ⟨by rfl, ?_⟩) hHeld ?_
        rotate_left
        · intro wz hSw; (try dsimp only at hSw); go_simp; try (with_reducible rfl)
        try simp only [Act.put, List.setIfInBounds_toArray, List.set_cons_zero, List.set_cons_succ]
        refine wpAnyH_take (i := 1) (oi := { dst := some 26, op := Op.fieldAddr 42 (Operand.tmp 9) 1, type := 0, pos := "pieces.go:41", after := #[{ on := 7, ground := Ground.gcOnly Departure.lateStores }], guard := none }) (v := ?_) rfl (by kernel_rfl) (by kernel_rfl) (by kernel_rfl) (fun _ _ _ h => h) (Or.inl ⟨by rfl, ?_⟩) hHeld ?_
        rotate_left
        · intro wz hSw; (try dsimp only at hSw); go_simp; try (with_reducible rfl)
        try simp only [Act.put, List.setIfInBounds_toArray, List.set_cons_zero, List.set_cons_succ]
        refine wpAnyH_take (i := 2) (oi := { dst := some 27, op := Op.load 3 (Operand.tmp 26), type := 3, pos := "pieces.go:41", after := #[{ on := 1, ground := Ground.data }, { on := 7, ground := Ground.gcOnly Departure.lateStores }], guard := none }) (v := ?_) rfl (by kernel_rfl) (by kernel_rfl) (by kernel_rfl) (fun _ _ _ h => h) (Or.inl ⟨by rfl, ?_⟩) hHeld ?_
        rotate_left
        · intro wz hSw; (try dsimp only at hSw); go_simp; try (with_reducible rfl)
        try simp only [Act.put, List.setIfInBounds_toArray, List.set_cons_zero, List.set_cons_succ]
        refine wpAnyH_take (i := 3) (oi := { dst := some 28, op := Op.load 3 (Operand.tmp 3), type := 3, pos := "pieces.go:41", after := #[{ on := 7, ground := Ground.gcOnly Departure.lateStores }], guard := none }) (v := ?_) rfl (by kernel_rfl) (by kernel_rfl) (by kernel_rfl) (fun _ _ _ h => h) (Or.inl ⟨by rfl, ?_⟩) hHeld ?_
        rotate_left
        · intro wz hSw; (try dsimp only at hSw); go_simp; try (with_reducible rfl)
        try simp only [Act.put, List.setIfInBounds_toArray, List.set_cons_zero, List.set_cons_succ]
        refine wpAnyH_take (i := 4) (oi := { dst := some 29, op := Op.binOp BinOp.add 3 (Operand.tmp 27) (Operand.tmp 28) 3, type := 3, pos := "pieces.go:41", after := #[{ on := 2, ground := Ground.data }, { on := 3, ground := Ground.data }, { on := 7, ground := Ground.gcOnly Departure.lateStores }], guard := none }) (v := ?_) rfl (by kernel_rfl) (by kernel_rfl) (by kernel_rfl) (fun _ _ _ h => h) (Or.inl ⟨by rfl, ?_⟩) hHeld ?_
        rotate_left
        · intro wz hSw; (try dsimp only at hSw); go_simp; try (with_reducible rfl)
        try simp only [Act.put, List.setIfInBounds_toArray, List.set_cons_zero, List.set_cons_succ]
        refine wpAnyH_take (i := 5) (oi := { dst := some 30, op := Op.move (Operand.tmp 8), type := 3, pos := "pieces.go:41", after := #[{ on := 7, ground := Ground.gcOnly Departure.lateStores }], guard := none }) (v := ?_) rfl (by kernel_rfl) (by kernel_rfl) (by kernel_rfl) (fun _ _ _ h => h) (Or.inl ⟨by rfl, ?_⟩) hHeld ?_
        rotate_left
        · intro wz hSw; (try dsimp only at hSw); go_simp; try (with_reducible rfl)
        try simp only [Act.put, List.setIfInBounds_toArray, List.set_cons_zero, List.set_cons_succ]
        refine wpAnyH_take (i := 6) (oi := { dst := some 31, op := Op.binOp BinOp.sub 3 (Operand.tmp 29) (Operand.tmp 30) 3, type := 3, pos := "pieces.go:41", after := #[{ on := 4, ground := Ground.data }, { on := 5, ground := Ground.data }, { on := 7, ground := Ground.gcOnly Departure.lateStores }], guard := none }) (v := ?_) rfl (by kernel_rfl) (by kernel_rfl) (by kernel_rfl) (fun _ _ _ h => h) (Or.inl ⟨by rfl, ?_⟩) hHeld ?_
        rotate_left
        · intro wz hSw; (try dsimp only at hSw); go_simp; try (with_reducible rfl)
        try simp only [Act.put, List.setIfInBounds_toArray, List.set_cons_zero, List.set_cons_succ]
        refine wpAnyH_ready (rs := [7]) (by kernel_rfl) (by simp) ?_
        refine AllReadyH.cons (o := { dst := none, op := Op.store 3 (Operand.tmp 4) (Operand.tmp 25), type := 0, pos := "pieces.go:41", after := #[{ on := 0, ground := Ground.data }, { on := 0, ground := Ground.phase }, { on := 1, ground := Ground.textOnly Departure.lateStores }, { on := 2, ground := Ground.textOnly Departure.lateStores }, { on := 3, ground := Ground.textOnly Departure.lateStores }, { on := 4, ground := Ground.textOnly Departure.lateStores }, { on := 5, ground := Ground.textOnly Departure.lateStores }, { on := 6, ground := Ground.textOnly Departure.lateStores }], guard := none }) rfl (fun K hK => ?_) AllReadyH.nil
        go_simp
        refine hK.out _ _ ?_ (fun hHeld => ?_)
        · exact HSS.out _ _ _ hHeld (by omega) (by omega)
        clear hK K
        try simp only [Act.put, List.setIfInBounds_toArray, List.set_cons_zero, List.set_cons_succ]
        refine wpAnyH_ready (rs := [8]) (by kernel_rfl) (by simp) ?_
        refine AllReadyH.cons (o := { dst := none, op := Op.store 3 (Operand.tmp 5) (Operand.tmp 31), type := 0, pos := "pieces.go:41", after := #[{ on := 6, ground := Ground.data }, { on := 7, ground := Ground.chain }, { on := 0, ground := Ground.phase }, { on := 1, ground := Ground.phase }, { on := 2, ground := Ground.phase }, { on := 3, ground := Ground.phase }, { on := 4, ground := Ground.phase }, { on := 5, ground := Ground.phase }, { on := 6, ground := Ground.phase }, { on := 7, ground := Ground.phase }], guard := none }) rfl (fun K hK => ?_) AllReadyH.nil
        go_simp
        refine hK.out _ _ ?_ (fun hHeld => ?_)
        · exact HSS.out _ _ _ hHeld (by omega) (by omega)
        clear hK K
        try simp only [Act.put, List.setIfInBounds_toArray, List.set_cons_zero, List.set_cons_succ]
        refine wpAnyH_ready (rs := [9]) (by kernel_rfl) (by simp) ?_
        refine AllReadyH.cons (o := { dst := none, op := Op.store 30 (Operand.tmp 6) (Operand.const (Value.int IntKind.i64 0)), type := 0, pos := "pieces.go:41", after := #[{ on := 8, ground := Ground.chain }, { on := 0, ground := Ground.phase }, { on := 1, ground := Ground.phase }, { on := 2, ground := Ground.phase }, { on := 3, ground := Ground.phase }, { on := 4, ground := Ground.phase }, { on := 5, ground := Ground.phase }, { on := 6, ground := Ground.phase }, { on := 7, ground := Ground.phase }, { on := 8, ground := Ground.phase }], guard := none }) rfl (fun K hK => ?_) AllReadyH.nil
        go_simp
        refine hK.out _ _ ?_ (fun hHeld => ?_)
        · exact HSS.out _ _ _ hHeld (by omega) (by omega)
        clear hK K
        try simp only [Act.put, List.setIfInBounds_toArray, List.set_cons_zero, List.set_cons_succ]
        refine wpAnyH_done (by kernel_rfl) ?_ _
        gi_wp2
        obtain ⟨k1, k2, k3⟩ := FIN.out _ _ (((HH.out.set_ 1 rfl 0 (.int .i64 (pre.length : Int))).set_ 2 rfl 0 (.int .i64 (IntKind.i64.wrap (IntKind.i64.wrap (x.2.f + a) - x.1)))).set_ 3 rfl 0 (.int .i64 0)).drew
        exact ⟨k1.from _, rfl, pre, x, rfl, HPRE.out, hx, by simp only [← IntWalk.i64_left]; exact k2⟩
      · have z2 : decide (wrap64 (a - x.1) < x.2.m) = false := decide_eq_false h2
        have hx : hitX a x = false := by unfold hitX; rw [z1, z2]; rfl
        gi_wp2
        all_goals
          obtain ⟨k1, k2, k3⟩ := FIN.out _ _ (HH.out.set_ 4 rfl 0 (.int .i64 ((pre.length : Int) + 1)))
          exact ⟨k1.from _, k3 _ (fun b hb => ⟨hb.2, id⟩), by rw [List.length_append]; exact k2, noHit_snoc HPRE.out hx⟩
    · have z1 : decide (x.1 ≤ a) = false := decide_eq_false h1
      have hx : hitX a x = false := by unfold hitX; rw [z1]; rfl
      gi_wp2
      all_goals
        obtain ⟨k1, k2, k3⟩ := FIN.out _ _ (HH.out.set_ 4 rfl 0 (.int .i64 ((pre.length : Int) + 1)))
        exact ⟨k1.from _, k3 _ (fun b hb => ⟨hb.2, id⟩), by rw [List.length_append]; exact k2, noHit_snoc HPRE.out hx⟩
  case done =>
    rintro D zs W hD rfl ⟨hst, hpre⟩ hK
    have f1 := (hst.blk 1 rfl).frozen
    have f2 := (hst.blk 2 rfl).frozen
    have f3 := (hst.blk 3 rfl).frozen
    have q1 := (hst.blk 1 rfl).one
    have q2 := (hst.blk 2 rfl).one
    have q3 := (hst.blk 3 rfl).one
    have s6 := ((hst.set_ 1 rfl 0 (.int .i64 0)).set_ 2 rfl 0 (.int .i64 0)).set_ 3 rfl 0 (.int .i64 6)
    have hFe : F = (0, 0, 6) := by rw [← HF.out]; exact findX_none hpre
    subst hFe
    have hK' : (((W.setCell ⟨w.heap.size + 1, 0, none⟩ (.int .i64 0)).setCell ⟨w.heap.size + 1 + 1, 0, none⟩ (.int .i64 0)).setCell ⟨w.heap.size + 1 + 1 + 1, 0, none⟩ (.int .i64 6)).heap[D]? = some (.deferred (some [])) := (((KeepsOthers.setCell _ _ _).trans (KeepsOthers.setCell _ _ _)).trans (KeepsOthers.setCell _ _ _)).same D _ hK rfl
    have s7 := s6.own (T := 42) (fdL_cy _ _ _ _ _ _) (Nat.le_refl _) (grownBy_putObj' _ D (.deferred none)) (fun r e => by cases e; exact ⟨by omega, _, hK', rfl⟩)
    have r1 := (s7.blk 1 rfl).one
    have r2 := (s7.blk 2 rfl).one
    have r3 := (s7.blk 3 rfl).one
    have S7 := Lib.hid s7
    clear s6 s7
    gi_wp2
    refine ⟨by simp, .inl ⟨_, _, rfl, run_takeDeferred hK', ?_⟩⟩
    refine ⟨.tuple #[.int .i64 0, .int .i64 0, .int .i64 6], ?_, rfl, S7.out.below⟩
    simp [results, go_sem, r1, r2, r3]
  case stop =>
    rintro D c pre W hD ⟨k, hk, hpk⟩ h hK
    obtain ⟨rfl, pre', x, h2, h3, h4, h5⟩ := h
    have hK' := hK
    have s7 := h5.own (T := 42) (fdL_cy _ _ _ _ _ _) (Nat.le_refl _) (grownBy_putObj' _ D (.deferred none)) (fun r e => by cases e; exact ⟨by omega, _, hK', rfl⟩)
    have r1 := (s7.blk 1 rfl).one
    have r2 := (s7.blk 2 rfl).one
    have r3 := (s7.blk 3 rfl).one
    have S7 := Lib.hid s7
    have hFe : F = ((pre'.length : Int), wrap64 (wrap64 (x.2.f + a) - x.1), 0) := by
      obtain ⟨rr, hrr⟩ := comeP_pre ps hk
      rw [← HF.out, hrr, ← hpk, h2, List.append_assoc]
      exact findX_some h3 h4
    subst hFe
    clear s7 h5 h2
    gi_wp2
    refine ⟨by simp, .inl ⟨_, _, rfl, run_takeDeferred hK', ?_⟩⟩
    refine ⟨.tuple #[.int .i64 (pre'.length : Int), .int .i64 (wrap64 (wrap64 (x.2.f + a) - x.1)), .int .i64 0], ?_, rfl, S7.out.below⟩
    simp [results, go_sem, r1, r2, r3]
end Go.Proofs.Ytiaojhjghededaa
