/- Layer 8: bytes scattered. -/
import Derived.Test.YtiaojhjghededaaPieS
import Derived.Test.YtiaojhjghededaaPieF
import Derived.Test.YtiaojhjghededaaPieH
import Derived.Lib.SlBytesRow
namespace Go.Proofs.Ytiaojhjghededaa
open Go.RowKit Go.Shelf
set_option linter.unusedVariables false
set_option maxRecDepth 100000
set_option maxHeartbeats 4000000
attribute [local go_sem] Oper.semAt_some
theorem cell_lt {w : World} {q : Addr} {v : Value} (h : w.cell? q = some v) : q.block < w.heap.size := by
  rcases Nat.lt_or_ge q.block w.heap.size with h' | h'
  · exact h'
  · simp [World.cell?, Array.getElem?_eq_none h'] at h
theorem St.rdsb {w0 w' : World} {S0 : Nat → Prop} {L : List Res} {A : Option Addr} {m : Nat} {xs : List Value} (h : St w0 S0 w' L) (hR : Rds w0 A m 1 xs) (hN : notIn A S0) : Rds w' A m 1 xs := by
  refine ⟨hR.1, ?_⟩
  rcases hR.2 with h0 | ⟨g, off, e, hc⟩
  · exact Or.inl h0
  · refine Or.inr ⟨g, off, e, fun j u hj => ?_⟩
    have h1 := hc j u hj
    obtain ⟨S, _, hd⟩ := h
    rw [World.cell?_of_block (w := w0) (a := ⟨g, off + j, none⟩) (hd.block g (cell_lt h1) (hN g off e))]
    exact h1
theorem Cy.set {T : TypeId} {L : List Res} {R : Res} (i : Nat) (hL : ∀ R ∈ L, Cy T R) (hR : Cy T R) : ∀ R' ∈ L.set i R, Cy T R' := fun R' h => by
  rcases List.mem_or_eq_of_mem_set h with h | rfl
  · exact hL R' h
  · exact hR
@[reducible] def scL (pb p : Nat) (ow : Int) (Ab : Option Addr) (bl bc : Nat) : List Res := [BlkR pb 25 #[.pointer (some ⟨p, 0, none⟩)], BlkR (pb + 1) 3 #[.int .i64 ow], BlkR (pb + 1 + 1) 23 #[.slice Ab bl bc]]
theorem scL_cy (pb p : Nat) (ow : Int) (Ab : Option Addr) (bl bc : Nat) : ∀ R ∈ scL pb p ow Ab bl bc, Cy 42 R := Cy.cons (Cy.blk _ _ _ (by decide)) (Cy.cons (Cy.blk _ _ _ (by decide)) (Cy.cons (Cy.blk _ _ _ (by decide)) Cy.nil))
theorem comeP_get {ps : List Pc} {x : Int × Pc} (h : x ∈ comeP ps ps.length) : ∃ k, k < ps.length ∧ x.1 = begP ps k := by
  obtain ⟨k, hk, rfl⟩ := List.mem_map.1 h
  exact ⟨k, List.mem_range.1 hk, rfl⟩
theorem ownV_live {n : Nat} {st : Nat → Buf} {s g : Int} {i : Nat} (hi : i < n) (hs : s = (i : Int)) (ho : (st i).owner ≠ 0) (hg : (st i).gen = g) : ownV n st s g = (st i).owner := by
  unfold ownV
  have hl : liveB n st s g = true := by
    unfold liveB
    rw [hs, Int.toNat_natCast]
    exact decide_eq_true ⟨by omega, by omega, ho, hg⟩
  rw [if_pos hl, hs, Int.toNat_natCast]
theorem size_u8 (w : World) : (Go.sizeOf 5).run Try.prog w = .ok 1 w := by kernel_rfl
section
variable {w0 w : World} {S0 : Nat → Prop} {L : List Res} {p n : Nat} {st : Nat → Buf} {G : Int}
theorem sc_boxes (H : St w0 S0 w L) (ow : Int) (Ab : Option Addr) (bl bc : Nat) : St w0 S0 (((w.alloc (.cells #[.pointer (some ⟨p, 0, none⟩)] 25)).alloc (.cells #[.int .i64 ow] 3)).alloc (.cells #[.slice Ab bl bc] 23)) (scL w.heap.size p ow Ab bl bc ++ L) := by
  have s := ((H.box 25 #[.pointer (some ⟨p, 0, none⟩)]).box 3 #[.int .i64 ow]).box 23 #[.slice Ab bl bc]
  simp only [World.size_alloc] at s
  have e : ((L ++ [BlkR w.heap.size 25 #[.pointer (some ⟨p, 0, none⟩)]]) ++ [BlkR (w.heap.size + 1) 3 #[.int .i64 ow]]) ++ [BlkR (w.heap.size + 1 + 1) 23 #[.slice Ab bl bc]] = L ++ scL w.heap.size p ow Ab bl bc := by simp [scL]
  rw [e] at s
  exact St.comm (A := L) s
theorem scatter_arg (H : St w0 S0 w L) (i : Nat) (hi : L[i]? = some (PoolR p n st)) (ok : POK n st G) (A : Option Addr) (cap : Nat) (ps : List Pc) (hlen : ps.length ≤ cap) (hcap : cap ≤ maxLen) (hR : RdP w0 A ps) (hN : notIn A S0) (ow : Int) (Ab : Option Addr) (bl bc : Nat) (hm : mayL n st ps = false) :
    Calls Try.prog 10 #[.pointer (some ⟨p, 0, none⟩), .slice A ps.length cap, .int .i64 ow, .slice Ab bl bc] w fun e w' => e = .returned (.tuple #[.int .i64 0, .int .i64 1]) ∧ St w0 S0 w' L := by
  have s0 := sc_boxes (p := p) H ow Ab bl bc
  have hi3 : (scL w.heap.size p ow Ab bl bc ++ L)[i + 3]? = some (PoolR p n st) := by
    rw [List.getElem?_append_right (by show 3 ≤ i + 3; omega)]; exact hi
  have KM := may_o8 s0 (i + 3) hi3 ok A cap ps hlen hcap hR hN
  rw [hm] at KM
  replace KM := Lib.hid KM
  have q0 := (s0.blk 0 rfl).one
  clear H hi ok hR hN hm s0 hi3
  refine (callsIn_wide (n := 6)).1 ?_
  refine callsIn_of_wp_marks Try.func10 rfl trivial ?_ rfl
  simp only [Try.ntmps10, List.size_toArray, List.length_cons, List.length_nil, Nat.reduceAdd, Nat.reduceSub, Array.replicate_succ, Array.replicate_zero, List.push_toArray, List.append_toArray, List.nil_append, List.cons_append]
  gi_wp2_with (first | (refine ⟨trivial, ?_⟩; gi_at_call 9; refine (callsIn_wide.2 KM.out).mono ?_; rintro e w1 ⟨rfl, s1⟩; have S1 := Lib.hid (show St w0 S0 w1 L from ((s1.drop 0 (Nat.zero_lt_succ _)).drop 0 (Nat.zero_lt_succ _)).drop 0 (Nat.zero_lt_succ _)); clear s1) | fail)
  refine ⟨.tuple #[.int .i64 0, .int .i64 1], ?_, rfl, S1.out⟩
  simp [results, go_sem]
theorem wide_region_n {P : Program} {n : Nat} {ops : Array Oper} {Q : Exit → Act → World → Prop} {K : Act → World → Prop} {id : Nat} {a : Act} {w : World} {S : World → Prop} (hnd : ∀ (i : Nat) (o : Oper), ops[i]? = some o → ∀ c, o.op ≠ .defer c) (hm : P.follows .mixedOrders = true) (hS : S w.drew)
    (h : S w.drew → wpAnyH P .any ops (Exit.then K (fun _ _ _ => False)) S ops.size (Array.replicate ops.size false) a w.drew) : (Code.region id ops true).wpIn Fence.wide n P (Exit.then K Q) a w := by
  refine wpIn_mono (wide_region hnd (by rintro ⟨_, _, h⟩; exact h) hm hS h) ?_
  intro e a w h
  cases e <;> first | exact h | exact h.elim
theorem scatter_o (H : St w0 S0 w L) (i : Nat) (hi : L[i]? = some (PoolR p n st)) (hCy : ∀ R ∈ L, Cy 42 R) (ok : POK n st G) (A : Option Addr) (cap : Nat) (ps : List Pc) (hlen : ps.length ≤ cap) (hcap : cap ≤ maxLen) (hwf : ∀ q ∈ ps, q.wf) (hR : RdP w0 A ps) (hN : notIn A S0) (hm : mayL n st ps = true) (ow : Int) (how : ownsP n st ow (bufsP ps) = true) (Ab : Option Addr) (bc : Nat) (bs : List Int) (hbc : bs.length ≤ bc) (hbc2 : bc ≤ maxLen) (hB : Rds w0 Ab bs.length 1 (bys bs)) (hNB : bs.length = 0 ∨ notIn Ab S0) :
    Calls Try.prog 10 #[.pointer (some ⟨p, 0, none⟩), .slice A ps.length cap, .int .i64 ow, .slice Ab bs.length bc] w fun e w' => e = .returned (.tuple #[.int .i64 (min (lenP ps) (bs.length : Int)), .int .i64 0]) ∧ St w0 S0 w' (L.set i (PoolR p n (scaP ps bs st))) := by
  unfold maxLen at hbc2
  obtain ⟨hwfp, hap, hfit, hl1, hl16⟩ := may_wf ok hm
  have hsm : ∀ q ∈ ps, q.sm := fun q hq => fit_sm ok (hfit q hq)
  obtain ⟨F, hF⟩ : ∃ F, scaP ps bs st = F := ⟨_, rfl⟩
  rw [hF]
  have HF := Lib.hid hF
  obtain ⟨M, hM⟩ : ∃ M, min (lenP ps) (bs.length : Int) = M := ⟨_, rfl⟩
  rw [hM]
  have HMM := Lib.hid hM
  clear hF hM
  have hsz0 := H.size
  have s0 := sc_boxes (p := p) H ow Ab bs.length bc
  obtain ⟨pb, hpb⟩ : ∃ pb, w.heap.size = pb := ⟨_, rfl⟩
  rw [hpb] at s0
  have hi3 : ∀ st', (scL pb p ow Ab bs.length bc ++ L.set i (PoolR p n st'))[i + 3]? = some (PoolR p n st') := fun st' => by
    rw [List.getElem?_append_right (by show 3 ≤ i + 3; omega)]
    show (L.set i (PoolR p n st'))[i]? = _
    exact List.getElem?_set_self (List.getElem?_eq_some_iff.1 hi).1
  have hL0 : L = L.set i (PoolR p n st) := (set_same' hi).symm
  have hi0 := hi3 st
  rw [← hL0] at hi0
  have KM := may_o8 s0 (i + 3) hi0 ok A cap ps hlen hcap hR hN
  rw [hm] at KM
  replace KM := Lib.hid KM
  have KO := Lib.hid (fun (W : World) (h : St w0 S0 W (scL pb p ow Ab bs.length bc ++ L)) => by have := owns_o8 h (i + 3) hi0 ok A cap ps (by omega) hwf hR hN ow; rw [how] at this; exact this)
  have HKL := Lib.hid (fun (W : World) (h : RdP W A ps) => len_o A cap ps W (by omega) hwf h)
  have q0 := (s0.blk 0 rfl).one
  have q1 := (s0.blk 1 rfl).one
  clear H s0 hi0
  refine (callsIn_wide (n := 6)).1 ?_
  refine callsIn_of_wp_marks Try.func10 rfl trivial ?_ rfl
  simp only [Try.ntmps10, List.size_toArray, List.length_cons, List.length_nil, Nat.reduceAdd, Nat.reduceSub, Array.replicate_succ, Array.replicate_zero, List.push_toArray, List.append_toArray, List.nil_append, List.cons_append]
  gi_wp2_with (first
    | (refine ⟨trivial, ?_⟩; gi_at_call 9; refine (callsIn_wide.2 KM.out).mono ?_; rintro e w1 ⟨rfl, s1⟩; have S1 := Lib.hid s1; have q0 := (s1.blk 0 rfl).one; have q1 := (s1.blk 1 rfl).one; clear s1)
    | (refine ⟨trivial, ?_⟩; gi_at_call 25; refine (callsIn_wide.2 (KO.out _ S1.out)).mono ?_; rintro e w2 ⟨rfl, s2⟩; have S2 := Lib.hid s2; clear s2)
    | (refine ⟨trivial, ?_⟩; gi_at_call 26; refine (callsIn_wide.2 (parts_o _ _ _ _)).mono ?_; rintro e w' ⟨rfl, rfl⟩)
    | fail)
  obtain ⟨ab, hab⟩ : ∃ ab, w2.heap.size = ab := ⟨_, rfl⟩
  rw [hab]
  have hss := S2.out.size
  have hpl2 := (S2.out.blk 2 rfl).lt
  rw [hab] at hss hpl2
  have s3 := S2.out.alloc (.cells #[.slice A ps.length cap] 22)
  have bL := Boxed.new w2 22 (.slice A ps.length cap)
  obtain ⟨W0, hW0⟩ : ∃ W0, w2.alloc (.cells #[.slice A ps.length cap] 22) = W0 := ⟨_, rfl⟩
  have hsz : W0.heap.size = ab + 1 := by rw [← hW0, ← hab]; simp
  rw [hW0] at s3 bL ⊢
  rw [hab] at bL
  clear hW0 q0 q1
  have hCX : ∀ st', ∀ R ∈ scL pb p ow Ab bs.length bc ++ L.set i (PoolR p n st'), Cy 42 R := fun st' => Cy.app (scL_cy _ _ _ _ _ _) (Cy.set i hCy (Cy.pool _ _ _ (by decide) (by decide) (by decide)))
  have s4 : St w0 S0 W0 (scL pb p ow Ab bs.length bc ++ L.set i (PoolR p n (scaX bs (([] : List (Coming ps)).map Subtype.val) st))) := by rw [show scaX bs (([] : List (Coming ps)).map Subtype.val) st = st from rfl, ← hL0]; exact s3
  have HL0 := Lib.hid hL0
  clear hL0 s3
  refine wpIn_rangeFunc_ownH (α := Coming ps) rfl (by omega) (gf := 37) (lb := #[.pointer (some ⟨ab, 0, none⟩)]) rfl trivial (enters_of Try.func37 (by kernel_rfl) rfl)
    (parts_stopsM Fence.wide 5 trivial rfl (by omega) ab cap A ps (by omega) hwf (rowK A w0.heap.size) (rowK_of hR) W0 (fun b hb => by have := hb.2; omega) (by omega) bL.cell (s4.rdp hR hN)) KpB.trans (fun W l o o' hl ho hc _ => KpB.put (B := w0.heap.size) (fun b hb => hb.2) W l o o' (by omega) ho hc) (Below.refl _ _) (fun _ => rfl)
    (fun pre W => St w0 S0 W (scL pb p ow Ab bs.length bc ++ L.set i (PoolR p n (scaX bs (pre.map Subtype.val) st))) ∧ ∀ y ∈ pre.map Subtype.val, y.1 < (bs.length : Int))
    (fun c pre W => c = .exit 1 ∧ ∃ (pre' : List (Coming ps)) (x : Coming ps), pre = pre' ++ [x] ∧ (∀ y ∈ pre'.map Subtype.val, y.1 < (bs.length : Int)) ∧ (bs.length : Int) ≤ x.1.1 ∧ St w0 S0 W (scL pb p ow Ab bs.length bc ++ L.set i (PoolR p n (scaX bs (pre'.map Subtype.val) st))))
    (fun s X Y row hs hg hr => ⟨hs.1.own (hCX _) (by omega) hg hr, hs.2⟩)
    (fun c s X Y row hs hg hr => by
      obtain ⟨h1, pre', x, h2, h3, h4, h5⟩ := hs
      exact ⟨h1, pre', x, h2, h3, h4, h5.own (hCX _) (by omega) hg hr⟩)
    ⟨s4, fun y hy => (by cases hy)⟩
    (fun x a' W => ∃ Bx, W.heap[Bx]? = some (Obj.cells #[.int .i64 x.1.2.s, .int .u64 x.1.2.g, .int .i64 x.1.2.f, .int .i64 x.1.2.m] 42 (0, 0)) ∧ a' = { tmps := #[.pointer (some ⟨p, 0, none⟩), .slice A ps.length cap, .int .i64 ow, .slice Ab bs.length bc, .pointer (some ⟨pb, 0, none⟩), undef, .pointer (some ⟨pb + 1, 0, none⟩), .pointer (some ⟨pb + 1 + 1, 0, none⟩), .int .i64 0, .int .i64 0, .int .i64 x.1.1, .pointer (some ⟨Bx, 0, none⟩), .bool false, .pointer (some ⟨p, 0, none⟩), .slice A ps.length cap, .bool true, .bool false, .bool false, .pointer (some ⟨p, 0, none⟩), .slice A ps.length cap, .int .i64 ow, .bool true, .bool false, .slice A ps.length cap, .func (.func 37) #[] #[.pointer (some ⟨ab, 0, none⟩)], .int .i64 x.1.1, .agg #[.int .i64 x.1.2.s, .int .u64 x.1.2.g, .int .i64 x.1.2.f, .int .i64 x.1.2.m], undef, undef, undef, undef, undef, undef, undef, undef, undef, undef, undef, undef, undef, undef, undef, undef, undef, undef, undef, undef, undef, undef, undef, undef, undef, undef], defers := [] })
    (fun x a' _ X Y row hs hg hr => by
      obtain ⟨Bx, h2, h3⟩ := hs
      refine ⟨Bx, ?_, h3⟩
      rw [hg.block Bx (Array.getElem?_eq_some_iff.1 h2).1 (fun e => ?_)]
      · exact h2
      · obtain ⟨_, o, ho, hc⟩ := hr Bx e.symm
        rw [h2] at ho
        injection ho with ho
        subst ho
        cases hc)
    ?assign ?body ?done ?stop
  case assign =>
    rintro l pre x W K ⟨hst, hlt0⟩ hK
    unfold encP
    gi_wp2
    exact hK _ _ ((KeepsOthers.alloc _ _).from _) (KpB.below ((Below.refl _ W).alloc (Nat.le_refl _) _) (fun b hb => Nat.lt_of_lt_of_le hb.2 hst.size)) ⟨hst.alloc _, hlt0⟩ ⟨W.heap.size, World.alloc_heap_new W _, rfl⟩
  case body =>
    rintro l pre x a' W hl ⟨r, hr⟩ ⟨hst, hlt0⟩ ⟨Bx, hc, rfl⟩ hlt
    have hmem : x.1.2 ∈ ps := comeP_mem x.2
    have hfx := hfit _ hmem
    obtain ⟨k, hkl, hbk⟩ := comeP_get x.2
    obtain ⟨hbt, hbm⟩ := begP_tot hsm hl16 k (by omega)
    rw [hbt] at hbk
    obtain ⟨beg, hbeg⟩ : ∃ beg, totP (ps.take k) = beg := ⟨_, rfl⟩
    rw [hbeg] at hbk hbm
    have hsnX := scaX_snoc bs (pre.map Subtype.val) x.1 st
    have hpx : (pre ++ [x]).map Subtype.val = pre.map Subtype.val ++ [x.1] := by rw [List.map_append]; rfl
    rw [← hpx] at hsnX
    have hwfX : ∀ y ∈ pre.map Subtype.val, wfP st y.2 := fun y hy => by
      obtain ⟨z, _, rfl⟩ := List.mem_map.1 hy
      exact hwfp _ (comeP_mem z.2)
    have hokX := scaX_ok ok bs _ hwfX
    have hsX := scaX_same bs _ st hwfX
    obtain ⟨f1, f2, f3, i0, f4, f5, f6, f7, f8⟩ := fitP_bd ok hfx
    have hown : (st i0).owner = ow := by
      have h1 := List.all_eq_true.1 how (x.1.2.s, x.1.2.g) ((bufs_mem ps _).2 ⟨x.1.2, hmem, rfl⟩)
      have h2 := beq_iff_eq.1 h1
      dsimp only at h2
      rw [ownV_live f4 f5 f6 f7] at h2
      exact h2
    have hwho : who ow := by
      have := (ok.b i0 f4).2.1
      rw [← hown]
      exact ⟨by omega, this.2⟩
    have hplt : pre.length < ps.length := hlt
    have hall : ∀ y ∈ (pre ++ [x]).map Subtype.val, x.1.1 < (bs.length : Int) → y.1 < (bs.length : Int) := fun y hy h => by
      rw [hpx] at hy
      rcases List.mem_append.1 hy with hy | hy
      · exact hlt0 y hy
      · rw [List.mem_singleton.1 hy]; exact h
    obtain ⟨S, H, fin⟩ := hst.apart (hCX _)
    have q0 := (H.blk 0 rfl).one
    have q1 := (H.blk 1 rfl).one
    have q2 := (H.blk 2 rfl).one
    have HPX := Lib.hid hpx
    rcases x with ⟨⟨b0, ⟨cs, cg, cf, cm0⟩⟩, hx⟩
    dsimp only at *
    obtain ⟨cm, rfl⟩ : ∃ cm : Nat, cm0 = (cm : Int) := ⟨cm0.toNat, by omega⟩
    have c0 : W.cell? ⟨Bx, 0, none⟩ = some (.int .i64 cs) := by simp [World.cell?, hc]
    have c1 : W.cell? ⟨Bx, 1, none⟩ = some (.int .u64 cg) := by simp [World.cell?, hc]
    have c2 : W.cell? ⟨Bx, 2, none⟩ = some (.int .i64 cf) := by simp [World.cell?, hc]
    have c3 : W.cell? ⟨Bx, 3, none⟩ = some (.int .i64 (cm : Int)) := by simp [World.cell?, hc]
    subst hbk
    have hcm1 : (cm : Int) ≤ 65536 := by omega
    have hb1 : (beg : Int) ≤ 1048576 := by omega
    obtain ⟨wb1, wb2⟩ : -9223372036854775808 ≤ (beg : Int) + (cm : Int) ∧ (beg : Int) + (cm : Int) ≤ 9223372036854775807 := by clear hsX hokX hall hlt0 f1 f2 f3 f8 hbm; omega
    have W1 := Lib.hid (show wrap64 ((beg : Int) + (cm : Int)) = (beg : Int) + (cm : Int) from IntWalk.wrap64_in _ ⟨wb1, wb2⟩)
    have W2 := Lib.hid (show IntKind.i64.wrap ((beg : Int) + (cm : Int)) = (beg : Int) + (cm : Int) from IntWalk.i64_in _ ⟨wb1, wb2⟩)
    clear wb1 wb2
    have HC := Lib.hid hc
    have FIN := Lib.hid fin
    by_cases hbr : bs.length ≤ beg
    · have z1 : decide ((bs.length : Int) ≤ (beg : Int)) = true := decide_eq_true (by omega)
      have HX := Lib.hid (And.intro hst hlt0)
      clear hc fin H hst hlt0 hl hr hpx hsnX hokX hsX hall hwfX W1 W2
      gi_wp2
      exact ⟨KeepsFrom.refl _ _, rfl, pre, _, rfl, HX.out.2, by show (bs.length : Int) ≤ (beg : Int); omega, HX.out.1⟩
    have z1 : decide ((bs.length : Int) ≤ (beg : Int)) = false := decide_eq_false (by omega)
    obtain ⟨g, off, hAb, hcells⟩ := (hst.rdsb hB (hNB.resolve_left (by omega))).2.resolve_left (by omega)
    have HLT := Lib.hid (fun y hy => hall y hy (by omega))
    have HSN := Lib.hid hsnX
    obtain ⟨xs, hxs⟩ : ∃ xs, (bs.drop beg).take cm = xs := ⟨_, rfl⟩
    have hxl : xs.length = min cm (bs.length - beg) := by rw [← hxs, List.length_take, List.length_drop]
    have hlb : xs.length ≤ cm := by omega
    obtain ⟨e1, e2, e3, e4⟩ := hsX i0
    have hv := write_via (n := n) (st := scaX bs (pre.map Subtype.val) st) (p := ⟨cs, cg, cf, (cm : Int)⟩) (by' := ow) (xs := xs) f4 f5 (by rw [e3]; exact hown) hwho (by rw [e2]; exact f7) f1 (by rw [e1]; show cf + ((xs.length : Nat) : Int) ≤ ((st i0).bs.length : Nat); omega)
    have hrd : Rds W (some ⟨g, off + beg, none⟩) xs.length 1 (bys xs) := ⟨by simp [bys], Or.inr ⟨g, off + beg, rfl, fun j u hj => by
      unfold bys at hj
      rw [List.getElem?_map] at hj
      obtain ⟨y, hy, rfl⟩ := Option.map_eq_some_iff.1 hj
      rw [← hxs, cut_get] at hy
      split at hy
      · rw [Nat.add_assoc]
        refine hcells (beg + j) _ ?_
        unfold bys
        rw [List.getElem?_map, hy]; rfl
      · cases hy⟩⟩
    have KW := write_o H.drew (i + 3) (hi3 _) hokX hv (cp := bc - beg) (by unfold maxLen; omega) (show Rds W.drew (some ⟨g, off + beg, none⟩) xs.length 1 (bys xs) from hrd)
    have eS : (scL pb p ow Ab bs.length bc ++ L.set i (PoolR p n (scaX bs (pre.map Subtype.val) st))).set (i + 3) (PoolR p n (putP (scaX bs (pre.map Subtype.val) st) ⟨cs, cg, cf, (cm : Int)⟩ xs)) = scL pb p ow Ab bs.length bc ++ L.set i (PoolR p n (putP (scaX bs (pre.map Subtype.val) st) ⟨cs, cg, cf, (cm : Int)⟩ xs)) := by
      rw [List.set_append_right _ _ (by show 3 ≤ i + 3; omega)]
      show scL pb p ow Ab bs.length bc ++ (L.set i _).set i _ = _
      rw [List.set_set]
    rw [eS] at KW
    replace KW := Lib.hid KW
    replace HSN : RowKit.Hid (scaX bs ((pre ++ [(⟨((beg : Int), ⟨cs, cg, cf, (cm : Int)⟩), hx⟩ : Coming ps)]).map Subtype.val) st = putP (scaX bs (pre.map Subtype.val) st) ⟨cs, cg, cf, (cm : Int)⟩ xs) := Lib.hid (by rw [HSN.out, ← hxs]; rfl)
    rcases Nat.lt_or_ge bs.length (beg + cm) with hmn | hmn
    · have m1 : (bs.length : Int) < (beg : Int) + (cm : Int) := by omega
      have mn1 : min ((beg : Int) + (cm : Int)) (bs.length : Int) = (bs.length : Int) := by omega
      have mn3 : beg ≤ bs.length := by omega
      have hne : ¬ bc = beg := by omega
      have hF2 : Option.map (fun x => x.add beg) Ab = some ⟨g, off + beg, none⟩ := by rw [hAb]; by_cases h0 : beg = 0 <;> simp [Addr.add, h0]
      replace KW := KW.out
      rw [show xs.length = bs.length - beg by omega] at KW
      replace KW := Lib.hid KW
      clear hc fin H hst hlt0 hl hr hpx hsnX hokX hsX hall hwfX hxs hv hrd eS hcells hxl e1 e2 e3 e4 hAb f5 f7 f6 f8 f1 f2 f3
      have w1 := W1.out
      have w2' := W2.out
      gi_wp2
      refine round_region (S := fun V => V.cell? ⟨pb, 0, none⟩ = some (.pointer (some ⟨p, 0, none⟩)) ∧ V.cell? ⟨pb + 1, 0, none⟩ = some (.int .i64 ow) ∧ V.cell? ⟨pb + 1 + 1, 0, none⟩ = some (.slice Ab bs.length bc) ∧ V.cell? ⟨Bx, 0, none⟩ = some (.int .i64 cs) ∧ V.cell? ⟨Bx, 1, none⟩ = some (.int .u64 cg) ∧ V.cell? ⟨Bx, 2, none⟩ = some (.int .i64 cf) ∧ V.cell? ⟨Bx, 3, none⟩ = some (.int .i64 (cm : Int))) (hnd_of (by kernel_rfl)) (by rintro ⟨_, _, h⟩; exact h) (by kernel_rfl) ⟨q0, q1, q2, c0, c1, c2, c3⟩ (fun hHeld => ?_)
      refine wpAnyH_take (i := 0) (oi := { dst := some 31, op := Op.load 25 (Operand.tmp 4), type := 25, pos := "pieces.go:86", after := #[], guard := none }) (v := ?_) rfl (by kernel_rfl) (by kernel_rfl) (by kernel_rfl) (fun _ _ _ h => h) (Or.inl ⟨by rfl, ?_⟩) hHeld ?_
      rotate_left
      · intro wz hSw; (try dsimp only at hSw); go_simp; try (with_reducible rfl)
      try simp only [Act.put, List.setIfInBounds_toArray, List.set_cons_zero, List.set_cons_succ]
      refine wpAnyH_take (i := 1) (oi := { dst := some 32, op := Op.fieldAddr 42 (Operand.tmp 11) 0, type := 0, pos := "pieces.go:86", after := #[], guard := none }) (v := ?_) rfl (by kernel_rfl) (by kernel_rfl) (by kernel_rfl) (fun _ _ _ h => h) (Or.inl ⟨by rfl, ?_⟩) hHeld ?_
      rotate_left
      · intro wz hSw; (try dsimp only at hSw); go_simp; try (with_reducible rfl)
      try simp only [Act.put, List.setIfInBounds_toArray, List.set_cons_zero, List.set_cons_succ]
      refine wpAnyH_take (i := 2) (oi := { dst := some 33, op := Op.load 40 (Operand.tmp 32), type := 40, pos := "pieces.go:86", after := #[{ on := 1, ground := Ground.data }], guard := none }) (v := ?_) rfl (by kernel_rfl) (by kernel_rfl) (by kernel_rfl) (fun _ _ _ h => h) (Or.inl ⟨by rfl, ?_⟩) hHeld ?_
      rotate_left
      · intro wz hSw; (try dsimp only at hSw); go_simp; try (with_reducible rfl)
      try simp only [Act.put, List.setIfInBounds_toArray, List.set_cons_zero, List.set_cons_succ]
      refine wpAnyH_take (i := 3) (oi := { dst := some 34, op := Op.load 3 (Operand.tmp 6), type := 3, pos := "pieces.go:86", after := #[], guard := none }) (v := ?_) rfl (by kernel_rfl) (by kernel_rfl) (by kernel_rfl) (fun _ _ _ h => h) (Or.inl ⟨by rfl, ?_⟩) hHeld ?_
      rotate_left
      · intro wz hSw; (try dsimp only at hSw); go_simp; try (with_reducible rfl)
      try simp only [Act.put, List.setIfInBounds_toArray, List.set_cons_zero, List.set_cons_succ]
      refine wpAnyH_take (i := 4) (oi := { dst := some 35, op := Op.fieldAddr 42 (Operand.tmp 11) 1, type := 0, pos := "pieces.go:86", after := #[], guard := none }) (v := ?_) rfl (by kernel_rfl) (by kernel_rfl) (by kernel_rfl) (fun _ _ _ h => h) (Or.inl ⟨by rfl, ?_⟩) hHeld ?_
      rotate_left
      · intro wz hSw; (try dsimp only at hSw); go_simp; try (with_reducible rfl)
      try simp only [Act.put, List.setIfInBounds_toArray, List.set_cons_zero, List.set_cons_succ]
      refine wpAnyH_take (i := 5) (oi := { dst := some 36, op := Op.load 3 (Operand.tmp 35), type := 3, pos := "pieces.go:86", after := #[{ on := 4, ground := Ground.data }], guard := none }) (v := ?_) rfl (by kernel_rfl) (by kernel_rfl) (by kernel_rfl) (fun _ _ _ h => h) (Or.inl ⟨by rfl, ?_⟩) hHeld ?_
      rotate_left
      · intro wz hSw; (try dsimp only at hSw); go_simp; try (with_reducible rfl)
      try simp only [Act.put, List.setIfInBounds_toArray, List.set_cons_zero, List.set_cons_succ]
      refine wpAnyH_take (i := 6) (oi := { dst := some 37, op := Op.load 23 (Operand.tmp 7), type := 23, pos := "pieces.go:86", after := #[], guard := none }) (v := ?_) rfl (by kernel_rfl) (by kernel_rfl) (by kernel_rfl) (fun _ _ _ h => h) (Or.inl ⟨by rfl, ?_⟩) hHeld ?_
      rotate_left
      · intro wz hSw; (try dsimp only at hSw); go_simp; try (with_reducible rfl)
      try simp only [Act.put, List.setIfInBounds_toArray, List.set_cons_zero, List.set_cons_succ]
      refine wpAnyH_take (i := 7) (oi := { dst := some 38, op := Op.move (Operand.tmp 10), type := 3, pos := "pieces.go:86", after := #[], guard := none }) (v := ?_) rfl (by kernel_rfl) (by kernel_rfl) (by kernel_rfl) (fun _ _ _ h => h) (Or.inl ⟨by rfl, ?_⟩) hHeld ?_
      rotate_left
      · intro wz hSw; (try dsimp only at hSw); go_simp; try (with_reducible rfl)
      try simp only [Act.put, List.setIfInBounds_toArray, List.set_cons_zero, List.set_cons_succ]
      refine wpAnyH_take (i := 8) (oi := { dst := some 39, op := Op.move (Operand.tmp 10), type := 3, pos := "pieces.go:86", after := #[], guard := none }) (v := ?_) rfl (by kernel_rfl) (by kernel_rfl) (by kernel_rfl) (fun _ _ _ h => h) (Or.inl ⟨by rfl, ?_⟩) hHeld ?_
      rotate_left
      · intro wz hSw; (try dsimp only at hSw); go_simp; try (with_reducible rfl)
      try simp only [Act.put, List.setIfInBounds_toArray, List.set_cons_zero, List.set_cons_succ]
      refine wpAnyH_take (i := 9) (oi := { dst := some 40, op := Op.fieldAddr 42 (Operand.tmp 11) 2, type := 0, pos := "pieces.go:86", after := #[], guard := none }) (v := ?_) rfl (by kernel_rfl) (by kernel_rfl) (by kernel_rfl) (fun _ _ _ h => h) (Or.inl ⟨by rfl, ?_⟩) hHeld ?_
      rotate_left
      · intro wz hSw; (try dsimp only at hSw); go_simp; try (with_reducible rfl)
      try simp only [Act.put, List.setIfInBounds_toArray, List.set_cons_zero, List.set_cons_succ]
      refine wpAnyH_take (i := 10) (oi := { dst := some 41, op := Op.load 3 (Operand.tmp 40), type := 3, pos := "pieces.go:86", after := #[{ on := 9, ground := Ground.data }], guard := none }) (v := ?_) rfl (by kernel_rfl) (by kernel_rfl) (by kernel_rfl) (fun _ _ _ h => h) (Or.inl ⟨by rfl, ?_⟩) hHeld ?_
      rotate_left
      · intro wz hSw; (try dsimp only at hSw); go_simp; try (with_reducible rfl)
      try simp only [Act.put, List.setIfInBounds_toArray, List.set_cons_zero, List.set_cons_succ]
      refine wpAnyH_take (i := 11) (oi := { dst := some 42, op := Op.binOp BinOp.add 3 (Operand.tmp 39) (Operand.tmp 41) 3, type := 3, pos := "pieces.go:86", after := #[{ on := 8, ground := Ground.data }, { on := 10, ground := Ground.data }], guard := none }) (v := ?_) rfl (by kernel_rfl) (by kernel_rfl) (by kernel_rfl) (fun _ _ _ h => h) (Or.inl ⟨by rfl, ?_⟩) hHeld ?_
      rotate_left
      · intro wz hSw; (try dsimp only at hSw); go_simp; try (with_reducible rfl)
      try simp only [Act.put, List.setIfInBounds_toArray, List.set_cons_zero, List.set_cons_succ]
      refine wpAnyH_take (i := 12) (oi := { dst := some 43, op := Op.load 23 (Operand.tmp 7), type := 23, pos := "pieces.go:86", after := #[], guard := none }) (v := ?_) rfl (by kernel_rfl) (by kernel_rfl) (by kernel_rfl) (fun _ _ _ h => h) (Or.inl ⟨by rfl, ?_⟩) hHeld ?_
      rotate_left
      · intro wz hSw; (try dsimp only at hSw); go_simp; try (with_reducible rfl)
      try simp only [Act.put, List.setIfInBounds_toArray, List.set_cons_zero, List.set_cons_succ]
      refine wpAnyH_take (i := 13) (oi := { dst := some 44, op := Op.call { callee := Callee.builtin Builtin.len, args := #[Operand.tmp 43], argTypes := #[23] }, type := 3, pos := "pieces.go:86", after := #[{ on := 12, ground := Ground.data }], guard := none }) (v := ?_) rfl (by kernel_rfl) (by kernel_rfl) (by kernel_rfl) (fun _ _ _ h => h) (Or.inl ⟨by rfl, ?_⟩) hHeld ?_
      rotate_left
      · intro wz hSw; (try dsimp only at hSw); go_simp; try (with_reducible rfl)
      try simp only [Act.put, List.setIfInBounds_toArray, List.set_cons_zero, List.set_cons_succ]
      refine wpAnyH_take (i := 14) (oi := { dst := some 45, op := Op.call { callee := Callee.builtin Builtin.min, args := #[Operand.tmp 42, Operand.tmp 44], argTypes := #[3, 3] }, type := 3, pos := "pieces.go:86", after := #[{ on := 11, ground := Ground.data }, { on := 13, ground := Ground.data }], guard := none }) (v := ?_) rfl (by kernel_rfl) (by kernel_rfl) (by kernel_rfl) (fun _ _ _ h => h) (Or.inl ⟨by rfl, ?_⟩) hHeld ?_
      rotate_left
      · intro wz hSw; (try dsimp only at hSw); go_simp; try (with_reducible rfl)
      try simp only [Act.put, List.setIfInBounds_toArray, List.set_cons_zero, List.set_cons_succ]
      refine wpAnyH_take (i := 15) (oi := { dst := some 46, op := Op.slice 23 (Operand.tmp 37) (some (Operand.tmp 38)) (some (Operand.tmp 45)) none, type := 23, pos := "pieces.go:86", after := #[{ on := 6, ground := Ground.data }, { on := 7, ground := Ground.data }, { on := 14, ground := Ground.data }], guard := none }) (v := ?_) rfl (by kernel_rfl) (by kernel_rfl) (by kernel_rfl) (fun _ _ _ h => h) (Or.inl ⟨by rfl, ?_⟩) hHeld ?_
      rotate_left
      · intro wz hSw; (try dsimp only at hSw); go_simp; try (with_reducible rfl)
      try simp only [Act.put, List.setIfInBounds_toArray, List.set_cons_zero, List.set_cons_succ]
      refine wpAnyH_ready (rs := [16]) (by kernel_rfl) (by simp) ?_
      refine AllReadyH.cons (o := { dst := some 47, op := Op.call { callee := Callee.value (Operand.func 27), args := #[Operand.tmp 31, Operand.tmp 33, Operand.tmp 34, Operand.tmp 36, Operand.tmp 46], argTypes := #[25, 40, 3, 3, 23] }, type := 30, pos := "pieces.go:86", after := #[{ on := 0, ground := Ground.data }, { on := 2, ground := Ground.data }, { on := 3, ground := Ground.data }, { on := 5, ground := Ground.data }, { on := 15, ground := Ground.data }], guard := none }) rfl (fun K hK => ?_) AllReadyH.nil
      go_simp
      refine KW.out.mono ?_
      rintro e w3 ⟨rfl, s3⟩
      have k := FIN.out _ _ s3
      have hBx := (k.2.2 (rowK A w0.heap.size) (fun b hb => ⟨hb.2, fun h => by obtain ⟨o, ho⟩ := hb.1; exact hN _ _ ho h⟩)).2.2 _ _ _ HC.out
      have t0 := (s3.blk 0 rfl).one
      have t1 := (s3.blk 1 rfl).one
      have t2 := (s3.blk 2 rfl).one
      have K3 := Lib.hid k
      have t3 : w3.cell? ⟨Bx, 0, none⟩ = some (.int .i64 cs) := by simp [World.cell?, hBx]
      have t4 : w3.cell? ⟨Bx, 1, none⟩ = some (.int .u64 cg) := by simp [World.cell?, hBx]
      have t5 : w3.cell? ⟨Bx, 2, none⟩ = some (.int .i64 cf) := by simp [World.cell?, hBx]
      have t6 : w3.cell? ⟨Bx, 3, none⟩ = some (.int .i64 (cm : Int)) := by simp [World.cell?, hBx]
      clear s3 k hBx
      go_wp2_with fail
      refine hK.out _ _ ?_ (fun hHeld => ?_)
      · exact ⟨t0, t1, t2, t3, t4, t5, t6⟩
      clear hK K
      try simp only [Act.put, List.setIfInBounds_toArray, List.set_cons_zero, List.set_cons_succ]
      refine wpAnyH_done (by kernel_rfl) ?_ _
      gi_wp2
      obtain ⟨k1, k2, k3⟩ := K3.out
      refine ⟨k1.from _, k3 _ (fun b hb => ⟨hb.2, fun h => by obtain ⟨o, ho⟩ := hb.1; exact hN _ _ ho h⟩), ?_, HLT.out⟩
      rw [HSN.out]
      exact k2
    · have m1 : ¬ (bs.length : Int) < (beg : Int) + (cm : Int) := by omega
      have mn1 : min ((beg : Int) + (cm : Int)) (bs.length : Int) = (beg : Int) + (cm : Int) := by omega
      have mn2 : (0 : Int) ≤ (beg : Int) + (cm : Int) := by omega
      have mn3 : (beg : Int) + (cm : Int) ≤ (bc : Int) := by omega
      have mn4 : ((beg : Int) + (cm : Int)).toNat = beg + cm := by omega
      have hne : ¬ bc = beg := by omega
      have hF2 : Option.map (fun x => x.add beg) Ab = some ⟨g, off + beg, none⟩ := by rw [hAb]; by_cases h0 : beg = 0 <;> simp [Addr.add, h0]
      replace KW := KW.out
      rw [show xs.length = cm by omega] at KW
      replace KW := Lib.hid KW
      clear hc fin H hst hlt0 hl hr hpx hsnX hokX hsX hall hwfX hxs hv hrd eS hcells hxl e1 e2 e3 e4 hAb f5 f7 f6 f8 f1 f2 f3
      have w1 := W1.out
      have w2' := W2.out
      gi_wp2
      refine round_region (S := fun V => V.cell? ⟨pb, 0, none⟩ = some (.pointer (some ⟨p, 0, none⟩)) ∧ V.cell? ⟨pb + 1, 0, none⟩ = some (.int .i64 ow) ∧ V.cell? ⟨pb + 1 + 1, 0, none⟩ = some (.slice Ab bs.length bc) ∧ V.cell? ⟨Bx, 0, none⟩ = some (.int .i64 cs) ∧ V.cell? ⟨Bx, 1, none⟩ = some (.int .u64 cg) ∧ V.cell? ⟨Bx, 2, none⟩ = some (.int .i64 cf) ∧ V.cell? ⟨Bx, 3, none⟩ = some (.int .i64 (cm : Int))) (hnd_of (by kernel_rfl)) (by rintro ⟨_, _, h⟩; exact h) (by kernel_rfl) ⟨q0, q1, q2, c0, c1, c2, c3⟩ (fun hHeld => ?_)
      refine wpAnyH_take (i := 0) (oi := { dst := some 31, op := Op.load 25 (Operand.tmp 4), type := 25, pos := "pieces.go:86", after := #[], guard := none }) (v := ?_) rfl (by kernel_rfl) (by kernel_rfl) (by kernel_rfl) (fun _ _ _ h => h) (Or.inl ⟨by rfl, ?_⟩) hHeld ?_
      rotate_left
      · intro wz hSw; (try dsimp only at hSw); go_simp; try (with_reducible rfl)
      try simp only [Act.put, List.setIfInBounds_toArray, List.set_cons_zero, List.set_cons_succ]
      refine wpAnyH_take (i := 1) (oi := { dst := some 32, op := Op.fieldAddr 42 (Operand.tmp 11) 0, type := 0, pos := "pieces.go:86", after := #[], guard := none }) (v := ?_) rfl (by kernel_rfl) (by kernel_rfl) (by kernel_rfl) (fun _ _ _ h => h) (Or.inl ⟨by rfl, ?_⟩) hHeld ?_
      rotate_left
      · intro wz hSw; (try dsimp only at hSw); go_simp; try (with_reducible rfl)
      try simp only [Act.put, List.setIfInBounds_toArray, List.set_cons_zero, List.set_cons_succ]
      refine wpAnyH_take (i := 2) (oi := { dst := some 33, op := Op.load 40 (Operand.tmp 32), type := 40, pos := "pieces.go:86", after := #[{ on := 1, ground := Ground.data }], guard := none }) (v := ?_) rfl (by kernel_rfl) (by kernel_rfl) (by kernel_rfl) (fun _ _ _ h => h) (Or.inl ⟨by rfl, ?_⟩) hHeld ?_
      rotate_left
      · intro wz hSw; (try dsimp only at hSw); go_simp; try (with_reducible rfl)
      try simp only [Act.put, List.setIfInBounds_toArray, List.set_cons_zero, List.set_cons_succ]
      refine wpAnyH_take (i := 3) (oi := { dst := some 34, op := Op.load 3 (Operand.tmp 6), type := 3, pos := "pieces.go:86", after := #[], guard := none }) (v := ?_) rfl (by kernel_rfl) (by kernel_rfl) (by kernel_rfl) (fun _ _ _ h => h) (Or.inl ⟨by rfl, ?_⟩) hHeld ?_
      rotate_left
      · intro wz hSw; (try dsimp only at hSw); go_simp; try (with_reducible rfl)
      try simp only [Act.put, List.setIfInBounds_toArray, List.set_cons_zero, List.set_cons_succ]
      refine wpAnyH_take (i := 4) (oi := { dst := some 35, op := Op.fieldAddr 42 (Operand.tmp 11) 1, type := 0, pos := "pieces.go:86", after := #[], guard := none }) (v := ?_) rfl (by kernel_rfl) (by kernel_rfl) (by kernel_rfl) (fun _ _ _ h => h) (Or.inl ⟨by rfl, ?_⟩) hHeld ?_
      rotate_left
      · intro wz hSw; (try dsimp only at hSw); go_simp; try (with_reducible rfl)
      try simp only [Act.put, List.setIfInBounds_toArray, List.set_cons_zero, List.set_cons_succ]
      refine wpAnyH_take (i := 5) (oi := { dst := some 36, op := Op.load 3 (Operand.tmp 35), type := 3, pos := "pieces.go:86", after := #[{ on := 4, ground := Ground.data }], guard := none }) (v := ?_) rfl (by kernel_rfl) (by kernel_rfl) (by kernel_rfl) (fun _ _ _ h => h) (Or.inl ⟨by rfl, ?_⟩) hHeld ?_
      rotate_left
      · intro wz hSw; (try dsimp only at hSw); go_simp; try (with_reducible rfl)
      try simp only [Act.put, List.setIfInBounds_toArray, List.set_cons_zero, List.set_cons_succ]
      refine wpAnyH_take (i := 6) (oi := { dst := some 37, op := Op.load 23 (Operand.tmp 7), type := 23, pos := "pieces.go:86", after := #[], guard := none }) (v := ?_) rfl (by kernel_rfl) (by kernel_rfl) (by kernel_rfl) (fun _ _ _ h => h) (Or.inl ⟨by rfl, ?_⟩) hHeld ?_
      rotate_left
      · intro wz hSw; (try dsimp only at hSw); go_simp; try (with_reducible rfl)
      try simp only [Act.put, List.setIfInBounds_toArray, List.set_cons_zero, List.set_cons_succ]
      refine wpAnyH_take (i := 7) (oi := { dst := some 38, op := Op.move (Operand.tmp 10), type := 3, pos := "pieces.go:86", after := #[], guard := none }) (v := ?_) rfl (by kernel_rfl) (by kernel_rfl) (by kernel_rfl) (fun _ _ _ h => h) (Or.inl ⟨by rfl, ?_⟩) hHeld ?_
      rotate_left
      · intro wz hSw; (try dsimp only at hSw); go_simp; try (with_reducible rfl)
      try simp only [Act.put, List.setIfInBounds_toArray, List.set_cons_zero, List.set_cons_succ]
      refine wpAnyH_take (i := 8) (oi := { dst := some 39, op := Op.move (Operand.tmp 10), type := 3, pos := "pieces.go:86", after := #[], guard := none }) (v := ?_) rfl (by kernel_rfl) (by kernel_rfl) (by kernel_rfl) (fun _ _ _ h => h) (Or.inl ⟨by rfl, ?_⟩) hHeld ?_
      rotate_left
      · intro wz hSw; (try dsimp only at hSw); go_simp; try (with_reducible rfl)
      try simp only [Act.put, List.setIfInBounds_toArray, List.set_cons_zero, List.set_cons_succ]
      refine wpAnyH_take (i := 9) (oi := { dst := some 40, op := Op.fieldAddr 42 (Operand.tmp 11) 2, type := 0, pos := "pieces.go:86", after := #[], guard := none }) (v := ?_) rfl (by kernel_rfl) (by kernel_rfl) (by kernel_rfl) (fun _ _ _ h => h) (Or.inl ⟨by rfl, ?_⟩) hHeld ?_
      rotate_left
      · intro wz hSw; (try dsimp only at hSw); go_simp; try (with_reducible rfl)
      try simp only [Act.put, List.setIfInBounds_toArray, List.set_cons_zero, List.set_cons_succ]
      refine wpAnyH_take (i := 10) (oi := { dst := some 41, op := Op.load 3 (Operand.tmp 40), type := 3, pos := "pieces.go:86", after := #[{ on := 9, ground := Ground.data }], guard := none }) (v := ?_) rfl (by kernel_rfl) (by kernel_rfl) (by kernel_rfl) (fun _ _ _ h => h) (Or.inl ⟨by rfl, ?_⟩) hHeld ?_
      rotate_left
      · intro wz hSw; (try dsimp only at hSw); go_simp; try (with_reducible rfl)
      try simp only [Act.put, List.setIfInBounds_toArray, List.set_cons_zero, List.set_cons_succ]
      refine wpAnyH_take (i := 11) (oi := { dst := some 42, op := Op.binOp BinOp.add 3 (Operand.tmp 39) (Operand.tmp 41) 3, type := 3, pos := "pieces.go:86", after := #[{ on := 8, ground := Ground.data }, { on := 10, ground := Ground.data }], guard := none }) (v := ?_) rfl (by kernel_rfl) (by kernel_rfl) (by kernel_rfl) (fun _ _ _ h => h) (Or.inl ⟨by rfl, ?_⟩) hHeld ?_
      rotate_left
      · intro wz hSw; (try dsimp only at hSw); go_simp; try (with_reducible rfl)
      try simp only [Act.put, List.setIfInBounds_toArray, List.set_cons_zero, List.set_cons_succ]
      refine wpAnyH_take (i := 12) (oi := { dst := some 43, op := Op.load 23 (Operand.tmp 7), type := 23, pos := "pieces.go:86", after := #[], guard := none }) (v := ?_) rfl (by kernel_rfl) (by kernel_rfl) (by kernel_rfl) (fun _ _ _ h => h) (Or.inl ⟨by rfl, ?_⟩) hHeld ?_
      rotate_left
      · intro wz hSw; (try dsimp only at hSw); go_simp; try (with_reducible rfl)
      try simp only [Act.put, List.setIfInBounds_toArray, List.set_cons_zero, List.set_cons_succ]
      refine wpAnyH_take (i := 13) (oi := { dst := some 44, op := Op.call { callee := Callee.builtin Builtin.len, args := #[Operand.tmp 43], argTypes := #[23] }, type := 3, pos := "pieces.go:86", after := #[{ on := 12, ground := Ground.data }], guard := none }) (v := ?_) rfl (by kernel_rfl) (by kernel_rfl) (by kernel_rfl) (fun _ _ _ h => h) (Or.inl ⟨by rfl, ?_⟩) hHeld ?_
      rotate_left
      · intro wz hSw; (try dsimp only at hSw); go_simp; try (with_reducible rfl)
      try simp only [Act.put, List.setIfInBounds_toArray, List.set_cons_zero, List.set_cons_succ]
      refine wpAnyH_take (i := 14) (oi := { dst := some 45, op := Op.call { callee := Callee.builtin Builtin.min, args := #[Operand.tmp 42, Operand.tmp 44], argTypes := #[3, 3] }, type := 3, pos := "pieces.go:86", after := #[{ on := 11, ground := Ground.data }, { on := 13, ground := Ground.data }], guard := none }) (v := ?_) rfl (by kernel_rfl) (by kernel_rfl) (by kernel_rfl) (fun _ _ _ h => h) (Or.inl ⟨by rfl, ?_⟩) hHeld ?_
      rotate_left
      · intro wz hSw; (try dsimp only at hSw); go_simp; try (with_reducible rfl)
      try simp only [Act.put, List.setIfInBounds_toArray, List.set_cons_zero, List.set_cons_succ]
      refine wpAnyH_take (i := 15) (oi := { dst := some 46, op := Op.slice 23 (Operand.tmp 37) (some (Operand.tmp 38)) (some (Operand.tmp 45)) none, type := 23, pos := "pieces.go:86", after := #[{ on := 6, ground := Ground.data }, { on := 7, ground := Ground.data }, { on := 14, ground := Ground.data }], guard := none }) (v := ?_) rfl (by kernel_rfl) (by kernel_rfl) (by kernel_rfl) (fun _ _ _ h => h) (Or.inl ⟨by rfl, ?_⟩) hHeld ?_
      rotate_left
      · intro wz hSw; (try dsimp only at hSw); go_simp; try (with_reducible rfl)
      try simp only [Act.put, List.setIfInBounds_toArray, List.set_cons_zero, List.set_cons_succ]
      refine wpAnyH_ready (rs := [16]) (by kernel_rfl) (by simp) ?_
      refine AllReadyH.cons (o := { dst := some 47, op := Op.call { callee := Callee.value (Operand.func 27), args := #[Operand.tmp 31, Operand.tmp 33, Operand.tmp 34, Operand.tmp 36, Operand.tmp 46], argTypes := #[25, 40, 3, 3, 23] }, type := 30, pos := "pieces.go:86", after := #[{ on := 0, ground := Ground.data }, { on := 2, ground := Ground.data }, { on := 3, ground := Ground.data }, { on := 5, ground := Ground.data }, { on := 15, ground := Ground.data }], guard := none }) rfl (fun K hK => ?_) AllReadyH.nil
      go_simp
      refine KW.out.mono ?_
      rintro e w3 ⟨rfl, s3⟩
      have k := FIN.out _ _ s3
      have hBx := (k.2.2 (rowK A w0.heap.size) (fun b hb => ⟨hb.2, fun h => by obtain ⟨o, ho⟩ := hb.1; exact hN _ _ ho h⟩)).2.2 _ _ _ HC.out
      have t0 := (s3.blk 0 rfl).one
      have t1 := (s3.blk 1 rfl).one
      have t2 := (s3.blk 2 rfl).one
      have K3 := Lib.hid k
      have t3 : w3.cell? ⟨Bx, 0, none⟩ = some (.int .i64 cs) := by simp [World.cell?, hBx]
      have t4 : w3.cell? ⟨Bx, 1, none⟩ = some (.int .u64 cg) := by simp [World.cell?, hBx]
      have t5 : w3.cell? ⟨Bx, 2, none⟩ = some (.int .i64 cf) := by simp [World.cell?, hBx]
      have t6 : w3.cell? ⟨Bx, 3, none⟩ = some (.int .i64 (cm : Int)) := by simp [World.cell?, hBx]
      clear s3 k hBx
      go_wp2_with fail
      refine hK.out _ _ ?_ (fun hHeld => ?_)
      · exact ⟨t0, t1, t2, t3, t4, t5, t6⟩
      clear hK K
      try simp only [Act.put, List.setIfInBounds_toArray, List.set_cons_zero, List.set_cons_succ]
      refine wpAnyH_done (by kernel_rfl) ?_ _
      gi_wp2
      obtain ⟨k1, k2, k3⟩ := K3.out
      refine ⟨k1.from _, k3 _ (fun b hb => ⟨hb.2, fun h => by obtain ⟨o, ho⟩ := hb.1; exact hN _ _ ho h⟩), ?_, HLT.out⟩
      rw [HSN.out]
      exact k2
  case done =>
    rintro D zs W hD hz ⟨hst, hlt0⟩ hK
    rw [hz] at hst hlt0
    rw [scaX_scaP hsm hl16 bs st ps.length (Nat.le_refl _) hlt0, List.take_length, HF.out] at hst
    have q2 := (hst.blk 2 rfl).one
    have HRP := Lib.hid (hst.drew.rdp hR hN)
    have HS := Lib.hid hst
    clear hst
    gi_wp2
    refine wide_region_n (S := fun V => V.cell? ⟨pb + 1 + 1, 0, none⟩ = some (.slice Ab bs.length bc)) (hnd_of (by kernel_rfl)) (by kernel_rfl) q2 (fun hHeld => ?_)
    refine wpAnyH_take (i := 0) (oi := { dst := some 48, op := Op.move (Operand.tmp 1), type := 22, pos := "pieces.go:88", after := #[], guard := none }) (v := ?_) rfl (by kernel_rfl) (by kernel_rfl) (by kernel_rfl) (fun _ _ _ h => h) (Or.inl ⟨by rfl, ?_⟩) hHeld ?_
    rotate_left
    · intro wz hSw; (try dsimp only at hSw); go_simp; try (with_reducible rfl)
    try simp only [Act.put, List.setIfInBounds_toArray, List.set_cons_zero, List.set_cons_succ]
    refine wpAnyH_take (i := 2) (oi := { dst := some 50, op := Op.load 23 (Operand.tmp 7), type := 23, pos := "pieces.go:88", after := #[], guard := none }) (v := ?_) rfl (by kernel_rfl) (by kernel_rfl) (by kernel_rfl) (fun _ _ _ h => h) (Or.inl ⟨by rfl, ?_⟩) hHeld ?_
    rotate_left
    · intro wz hSw; (try dsimp only at hSw); go_simp; try (with_reducible rfl)
    try simp only [Act.put, List.setIfInBounds_toArray, List.set_cons_zero, List.set_cons_succ]
    refine wpAnyH_take (i := 3) (oi := { dst := some 51, op := Op.call { callee := Callee.builtin Builtin.len, args := #[Operand.tmp 50], argTypes := #[23] }, type := 3, pos := "pieces.go:88", after := #[{ on := 2, ground := Ground.data }], guard := none }) (v := ?_) rfl (by kernel_rfl) (by kernel_rfl) (by kernel_rfl) (fun _ _ _ h => h) (Or.inl ⟨by rfl, ?_⟩) hHeld ?_
    rotate_left
    · intro wz hSw; (try dsimp only at hSw); go_simp; try (with_reducible rfl)
    try simp only [Act.put, List.setIfInBounds_toArray, List.set_cons_zero, List.set_cons_succ]
    refine wpAnyH_ready (rs := [1]) (by kernel_rfl) (by simp) ?_
    refine AllReadyH.cons (o := { dst := some 49, op := Op.call { callee := Callee.value (Operand.func 12), args := #[Operand.tmp 48], argTypes := #[22] }, type := 3, pos := "pieces.go:88", after := #[{ on := 0, ground := Ground.data }], guard := none }) rfl (fun K hK => ?_) AllReadyH.nil
    go_simp
    refine (HKL.out _ HRP.out).mono ?_
    rintro e w3 ⟨rfl, s3⟩
    have S3 := Lib.hid s3
    have q3 : w3.cell? ⟨pb + 1 + 1, 0, none⟩ = some (.slice Ab bs.length bc) := (s3.cell (p := ⟨pb + 1 + 1, 0, none⟩) (by have := (HS.out.blk 2 rfl).lt; exact this)).trans q2
    clear s3
    go_wp2_with fail
    refine hK.out _ _ ?_ (fun hHeld => ?_)
    · exact q3
    clear hK K
    try simp only [Act.put, List.setIfInBounds_toArray, List.set_cons_zero, List.set_cons_succ]
    refine wpAnyH_take (i := 4) (oi := { dst := some 52, op := Op.call { callee := Callee.builtin Builtin.min, args := #[Operand.tmp 49, Operand.tmp 51], argTypes := #[3, 3] }, type := 3, pos := "pieces.go:88", after := #[{ on := 1, ground := Ground.data }, { on := 3, ground := Ground.data }], guard := none }) (v := ?_) rfl (by kernel_rfl) (by kernel_rfl) (by kernel_rfl) (fun _ _ _ h => h) (Or.inl ⟨by rfl, ?_⟩) hHeld ?_
    rotate_left
    · intro wz hSw; (try dsimp only at hSw); go_simp; try (with_reducible rfl)
    try simp only [Act.put, List.setIfInBounds_toArray, List.set_cons_zero, List.set_cons_succ]
    refine wpAnyH_take (i := 5) (oi := { dst := some 8, op := Op.assign (Operand.tmp 52), type := 3, pos := "pieces.go:88", after := #[{ on := 4, ground := Ground.data }, { on := 1, ground := Ground.chain }, { on := 0, ground := Ground.phase }, { on := 1, ground := Ground.phase }, { on := 2, ground := Ground.phase }, { on := 3, ground := Ground.phase }, { on := 4, ground := Ground.phase }], guard := none }) (v := ?_) rfl (by kernel_rfl) (by kernel_rfl) (by kernel_rfl) (fun _ _ _ h => h) (Or.inl ⟨by rfl, ?_⟩) hHeld ?_
    rotate_left
    · intro wz hSw; (try dsimp only at hSw); go_simp; try (with_reducible rfl)
    try simp only [Act.put, List.setIfInBounds_toArray, List.set_cons_zero, List.set_cons_succ]
    refine wpAnyH_take (i := 6) (oi := { dst := some 9, op := Op.assign (Operand.const (Value.int IntKind.i64 0)), type := 30, pos := "pieces.go:88", after := #[{ on := 5, ground := Ground.chain }, { on := 0, ground := Ground.phase }, { on := 1, ground := Ground.phase }, { on := 2, ground := Ground.phase }, { on := 3, ground := Ground.phase }, { on := 4, ground := Ground.phase }, { on := 5, ground := Ground.phase }], guard := none }) (v := ?_) rfl (by kernel_rfl) (by kernel_rfl) (by kernel_rfl) (fun _ _ _ h => h) (Or.inl ⟨by rfl, ?_⟩) hHeld ?_
    rotate_left
    · intro wz hSw; (try dsimp only at hSw); go_simp; try (with_reducible rfl)
    try simp only [Act.put, List.setIfInBounds_toArray, List.set_cons_zero, List.set_cons_succ]
    refine wpAnyH_done (by kernel_rfl) ?_ _
    gi_wp2
    have hK3 := (S3.out.block D (Array.getElem?_eq_some_iff.1 hK).1).trans hK
    have s7 := (HS.out.drew.stay S3.out).own (T := 42) (hCX _) (Nat.le_refl _) (grownBy_putObj' _ D (.deferred none)) (fun r e => by cases e; exact ⟨by omega, _, hK3, rfl⟩)
    have S7 := Lib.hid (((s7.drop 0 (Nat.zero_lt_succ _)).drop 0 (Nat.zero_lt_succ _)).drop 0 (Nat.zero_lt_succ _))
    clear s7
    refine ⟨by simp, .inl ⟨_, _, rfl, run_takeDeferred hK3, ?_⟩⟩
    refine ⟨.tuple #[.int .i64 M, .int .i64 0], ?_, rfl, ?_⟩
    · rw [← HMM.out]; simp [results, go_sem]
    · have hh := S7.out
      exact hh
  case stop =>
    rintro D c pre W hD ⟨k, hk, hpk⟩ ⟨rfl, pre', x, rfl, hlt0, hge, hst⟩ hK
    rw [List.map_append] at hpk
    have hk1 : k ≠ 0 := fun e => by
      subst e
      have h0 : (List.map Subtype.val [x]).length ≤ (comeP ps 0).length := by rw [← hpk, List.length_append]; omega
      exact absurd h0 (Nat.not_succ_le_zero 0)
    obtain ⟨k', rfl⟩ : ∃ k', k = k' + 1 := ⟨k - 1, by omega⟩
    rw [comeP_succ] at hpk
    obtain ⟨hp1, hp2⟩ := List.append_inj' hpk rfl
    have hx0 := List.head_eq_of_cons_eq hp2
    rw [hx0] at hge
    dsimp only at hge
    obtain ⟨hbt, _⟩ := begP_tot hsm hl16 k' (by omega)
    rw [hbt] at hge
    rw [hp1] at hst hlt0
    rw [scaX_scaP hsm hl16 bs st k' (by omega) hlt0, ← scaP_stop (ps.take k') (ps.drop k') bs st (by omega), List.take_append_drop, HF.out] at hst
    have q2 := (hst.blk 2 rfl).one
    have HRP := Lib.hid (hst.drew.rdp hR hN)
    have HS := Lib.hid hst
    clear hst
    gi_wp2
    refine wide_region_n (S := fun V => V.cell? ⟨pb + 1 + 1, 0, none⟩ = some (.slice Ab bs.length bc)) (hnd_of (by kernel_rfl)) (by kernel_rfl) q2 (fun hHeld => ?_)
    refine wpAnyH_take (i := 0) (oi := { dst := some 48, op := Op.move (Operand.tmp 1), type := 22, pos := "pieces.go:88", after := #[], guard := none }) (v := ?_) rfl (by kernel_rfl) (by kernel_rfl) (by kernel_rfl) (fun _ _ _ h => h) (Or.inl ⟨by rfl, ?_⟩) hHeld ?_
    rotate_left
    · intro wz hSw; (try dsimp only at hSw); go_simp; try (with_reducible rfl)
    try simp only [Act.put, List.setIfInBounds_toArray, List.set_cons_zero, List.set_cons_succ]
    refine wpAnyH_take (i := 2) (oi := { dst := some 50, op := Op.load 23 (Operand.tmp 7), type := 23, pos := "pieces.go:88", after := #[], guard := none }) (v := ?_) rfl (by kernel_rfl) (by kernel_rfl) (by kernel_rfl) (fun _ _ _ h => h) (Or.inl ⟨by rfl, ?_⟩) hHeld ?_
    rotate_left
    · intro wz hSw; (try dsimp only at hSw); go_simp; try (with_reducible rfl)
    try simp only [Act.put, List.setIfInBounds_toArray, List.set_cons_zero, List.set_cons_succ]
    refine wpAnyH_take (i := 3) (oi := { dst := some 51, op := Op.call { callee := Callee.builtin Builtin.len, args := #[Operand.tmp 50], argTypes := #[23] }, type := 3, pos := "pieces.go:88", after := #[{ on := 2, ground := Ground.data }], guard := none }) (v := ?_) rfl (by kernel_rfl) (by kernel_rfl) (by kernel_rfl) (fun _ _ _ h => h) (Or.inl ⟨by rfl, ?_⟩) hHeld ?_
    rotate_left
    · intro wz hSw; (try dsimp only at hSw); go_simp; try (with_reducible rfl)
    try simp only [Act.put, List.setIfInBounds_toArray, List.set_cons_zero, List.set_cons_succ]
    refine wpAnyH_ready (rs := [1]) (by kernel_rfl) (by simp) ?_
    refine AllReadyH.cons (o := { dst := some 49, op := Op.call { callee := Callee.value (Operand.func 12), args := #[Operand.tmp 48], argTypes := #[22] }, type := 3, pos := "pieces.go:88", after := #[{ on := 0, ground := Ground.data }], guard := none }) rfl (fun K hK => ?_) AllReadyH.nil
    go_simp
    refine (HKL.out _ HRP.out).mono ?_
    rintro e w3 ⟨rfl, s3⟩
    have S3 := Lib.hid s3
    have q3 : w3.cell? ⟨pb + 1 + 1, 0, none⟩ = some (.slice Ab bs.length bc) := (s3.cell (p := ⟨pb + 1 + 1, 0, none⟩) (by have := (HS.out.blk 2 rfl).lt; exact this)).trans q2
    clear s3
    go_wp2_with fail
    refine hK.out _ _ ?_ (fun hHeld => ?_)
    · exact q3
    clear hK K
    try simp only [Act.put, List.setIfInBounds_toArray, List.set_cons_zero, List.set_cons_succ]
    refine wpAnyH_take (i := 4) (oi := { dst := some 52, op := Op.call { callee := Callee.builtin Builtin.min, args := #[Operand.tmp 49, Operand.tmp 51], argTypes := #[3, 3] }, type := 3, pos := "pieces.go:88", after := #[{ on := 1, ground := Ground.data }, { on := 3, ground := Ground.data }], guard := none }) (v := ?_) rfl (by kernel_rfl) (by kernel_rfl) (by kernel_rfl) (fun _ _ _ h => h) (Or.inl ⟨by rfl, ?_⟩) hHeld ?_
    rotate_left
    · intro wz hSw; (try dsimp only at hSw); go_simp; try (with_reducible rfl)
    try simp only [Act.put, List.setIfInBounds_toArray, List.set_cons_zero, List.set_cons_succ]
    refine wpAnyH_take (i := 5) (oi := { dst := some 8, op := Op.assign (Operand.tmp 52), type := 3, pos := "pieces.go:88", after := #[{ on := 4, ground := Ground.data }, { on := 1, ground := Ground.chain }, { on := 0, ground := Ground.phase }, { on := 1, ground := Ground.phase }, { on := 2, ground := Ground.phase }, { on := 3, ground := Ground.phase }, { on := 4, ground := Ground.phase }], guard := none }) (v := ?_) rfl (by kernel_rfl) (by kernel_rfl) (by kernel_rfl) (fun _ _ _ h => h) (Or.inl ⟨by rfl, ?_⟩) hHeld ?_
    rotate_left
    · intro wz hSw; (try dsimp only at hSw); go_simp; try (with_reducible rfl)
    try simp only [Act.put, List.setIfInBounds_toArray, List.set_cons_zero, List.set_cons_succ]
    refine wpAnyH_take (i := 6) (oi := { dst := some 9, op := Op.assign (Operand.const (Value.int IntKind.i64 0)), type := 30, pos := "pieces.go:88", after := #[{ on := 5, ground := Ground.chain }, { on := 0, ground := Ground.phase }, { on := 1, ground := Ground.phase }, { on := 2, ground := Ground.phase }, { on := 3, ground := Ground.phase }, { on := 4, ground := Ground.phase }, { on := 5, ground := Ground.phase }], guard := none }) (v := ?_) rfl (by kernel_rfl) (by kernel_rfl) (by kernel_rfl) (fun _ _ _ h => h) (Or.inl ⟨by rfl, ?_⟩) hHeld ?_
    rotate_left
    · intro wz hSw; (try dsimp only at hSw); go_simp; try (with_reducible rfl)
    try simp only [Act.put, List.setIfInBounds_toArray, List.set_cons_zero, List.set_cons_succ]
    refine wpAnyH_done (by kernel_rfl) ?_ _
    gi_wp2
    have hK3 := (S3.out.block D (Array.getElem?_eq_some_iff.1 hK).1).trans hK
    have s7 := (HS.out.drew.stay S3.out).own (T := 42) (hCX _) (Nat.le_refl _) (grownBy_putObj' _ D (.deferred none)) (fun r e => by cases e; exact ⟨by omega, _, hK3, rfl⟩)
    have S7 := Lib.hid (((s7.drop 0 (Nat.zero_lt_succ _)).drop 0 (Nat.zero_lt_succ _)).drop 0 (Nat.zero_lt_succ _))
    clear s7
    refine ⟨by simp, .inl ⟨_, _, rfl, run_takeDeferred hK3, ?_⟩⟩
    refine ⟨.tuple #[.int .i64 M, .int .i64 0], ?_, rfl, ?_⟩
    · rw [← HMM.out]; simp [results, go_sem]
    · have hh := S7.out
      exact hh
end
end Go.Proofs.Ytiaojhjghededaa
