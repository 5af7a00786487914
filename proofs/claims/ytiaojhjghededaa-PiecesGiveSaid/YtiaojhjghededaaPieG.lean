/- Layer 8: a list's bytes. -/
import Derived.Test.YtiaojhjghededaaPieC
import Derived.Test.YtiaojhjghededaaPieP
import Derived.Test.YtiaojhjghededaaRfb
namespace Go.Proofs.Ytiaojhjghededaa
open Go.RowKit Go.Shelf
set_option linter.unusedVariables false
set_option maxRecDepth 100000
set_option maxHeartbeats 4000000
attribute [local go_sem] Oper.semAt_some
theorem wpListIn_lis {w : World} {F : Fence} {nn : Nat} {P : Program} {ops : Array Oper} {rest : List Oper} {o : Oper} {a : Act} {Q : Exit → Act → World → Prop} (hgd : o.guard = none) (s x : Operand) (t : TypeId)
    (ho : o.op = .call { callee := .builtin .append, args := #[s, x], argTypes := #[t, t] })
    (e : TypeId) (i : TypeInfo) (z : Value) (size bytes : Nat) (ht : P.underlying t = some (.slice e)) (hi : P.info? e = some i) (hz : i.zero = some z)
    (hsize : i.size = size) (hby : i.bytes = bytes) (hzs : z.cells.size = size) (hsz : 0 < size) (v : Value) (n : Nat) (xs : List Value) (hs : a.eval s = v) (h : Lis w e size v n xs)
    (A : Option Addr) (m c : Nat) (news : List Value) (hx : a.eval x = .slice A m c) (hr : Rds w A m size news) (h1 : ∀ u ∈ news, u.oneCell' = true) (h63 : n + m ≤ maxLen) (hbytes : (n + m) * bytes ≤ 140737488355328)
    (hK : ∀ B cap w', Lis w' e size (.slice B (n + m) cap) (n + m) (xs ++ news) → w.grownBy w' v.ownBlock → ((Value.slice B (n + m) cap).ownBlock = v.ownBlock ∨ ∃ g, (Value.slice B (n + m) cap).ownBlock = some g ∧ w.heap.size ≤ g) → wpListIn F nn P ops Q rest (a.put o.dst (.slice B (n + m) cap)) w') : wpListIn F nn P ops Q (o :: rest) a w := by
  refine wpListIn_plain hgd fun K hK2 => ?_
  obtain ⟨v', w', hrun, h2, h3, h4⟩ := run_lis (P := P) (w := w) t o.type i z bytes ht hi hz hsize hby hzs hsz h A m c news hr h1 h63 hbytes
  unfold Oper.wpIn
  refine ⟨?_, ?_⟩
  · simp [Oper.about, ho, resolve, Target.leads, Sem.run_pure]
  · rw [Oper.semAt_plain F _ _ (by rw [ho]; intro c hc'; cases hc')]
    simp only [execOp, ho, resolve, invoke, builtin, Sem.run_bind, Sem.run_pure, Result.andThen_ok, List.map_toArray, List.map_cons, List.map_nil, hs, hx, hrun]
    obtain ⟨B, cap, rfl, _⟩ := h2.shape
    exact hK2 _ _ (hK B cap w' h2 h3 h4)
theorem Cy.pool {T : TypeId} (p n : Nat) (st : Nat → Buf) (h1 : 70 ≠ T) (h2 : 72 ≠ T) (h3 : 5 ≠ T) : Cy T (PoolR p n st) := by
  rintro w S ⟨bb, off, cap, bp, h⟩
  refine Cy.star (L := PoolL p bb off cap bp n st) ?_ w S h
  unfold PoolL
  intro R hR
  rcases List.mem_append.1 hR with hR | hR
  · exact Cy.cons (Cy.blk _ _ _ h1) (Cy.cons (Cy.lis _ _ _ _ _ h2) Cy.nil) R hR
  · obtain ⟨i, _, rfl⟩ := List.mem_map.1 hR
    exact Cy.lis _ _ _ _ _ h3
theorem Cy.app {T : TypeId} {A B : List Res} (ha : ∀ R ∈ A, Cy T R) (hb : ∀ R ∈ B, Cy T R) : ∀ R ∈ A ++ B, Cy T R := fun R hR => (List.mem_append.1 hR).elim (ha R) (hb R)
theorem comeP_snd (ps : List Pc) : (comeP ps ps.length).map Prod.snd = ps := by
  unfold comeP
  rw [List.map_map]
  apply List.ext_getElem
  · simp
  · intro i h1 h2
    simp [List.getD_eq_getElem?_getD, List.getElem?_eq_getElem h2]
theorem comeP_mem {ps : List Pc} {x : Int × Pc} (h : x ∈ comeP ps ps.length) : x.2 ∈ ps := by
  have := List.mem_map_of_mem (f := Prod.snd) h
  rw [comeP_snd] at this
  exact this
def pcsOf {ps : List Pc} (l : List (Coming ps)) : List Pc := l.map fun x => x.1.2
theorem pcsOf_snoc {ps : List Pc} (l : List (Coming ps)) (x : Coming ps) : pcsOf (l ++ [x]) = pcsOf l ++ [x.1.2] := by simp [pcsOf]
theorem pcsOf_all {ps : List Pc} {l : List (Coming ps)} (h : l.map Subtype.val = comeP ps ps.length) : pcsOf l = ps := by
  have := congrArg (List.map Prod.snd) h
  rw [comeP_snd, List.map_map] at this
  exact this
theorem gat_snoc (st : Nat → Buf) (l : List Pc) (p : Pc) : gatP st (l ++ [p]) = gatP st l ++ cutP st p := by unfold gatP; simp
theorem fit_read {n : Nat} {st : Nat → Buf} {p : Pc} {G : Int} (ok : POK n st G) (h : fitP n st p = true) : ReadP n st p.s p.g p.f p.m (cutP st p) 0 := by
  obtain ⟨h1, h2, h3, i, h4, h5, h6, h7, h8⟩ := fitP_bd ok h
  refine Or.inr ⟨i, h4, h5, h6, h7, Or.inr ⟨⟨h1, by omega, by omega, by omega⟩, rfl, ?_⟩⟩
  unfold cutP
  rw [h5, Int.toNat_natCast]
theorem gat_le {n : Nat} {st : Nat → Buf} {G : Int} (ok : POK n st G) : ∀ l : List Pc, (∀ p ∈ l, fitP n st p = true) → (gatP st l).length ≤ 65536 * l.length
  | [], _ => Nat.le_refl _
  | p :: l, h => by
    have ih := gat_le ok l fun q hq => h q (List.mem_cons_of_mem _ hq)
    have hp := h p List.mem_cons_self
    have h1 := cut_len st p (fit_wf ok hp)
    obtain ⟨_, _, h3, _⟩ := fitP_bd ok hp
    have e : gatP st (p :: l) = cutP st p ++ gatP st l := by unfold gatP; rw [List.flatMap_cons]
    rw [e, List.length_append, List.length_cons]
    omega
@[reducible] def gaL (pb p ab : Nat) (B : Option Addr) (m c : Nat) (xs : List Int) : List Res := [BlkR pb 25 #[.pointer (some ⟨p, 0, none⟩)], BlkR ab 23 #[.slice B m c], LisR 5 1 (.slice B m c) m (bys xs)]
theorem gaL_cy (pb p ab : Nat) (B : Option Addr) (m c : Nat) (xs : List Int) : ∀ R ∈ gaL pb p ab B m c xs, Cy 42 R := Cy.cons (Cy.blk _ _ _ (by decide)) (Cy.cons (Cy.blk _ _ _ (by decide)) (Cy.cons (Cy.lis _ _ _ _ _ (by decide)) Cy.nil))
section
variable {w0 w : World} {S0 : Nat → Prop} {L : List Res} {p n : Nat} {st : Nat → Buf} {G : Int}
theorem gather_arg (H : St w0 S0 w L) (i : Nat) (hi : L[i]? = some (PoolR p n st)) (ok : POK n st G) (A : Option Addr) (cap : Nat) (ps : List Pc) (hlen : ps.length ≤ cap) (hcap : cap ≤ maxLen) (hR : RdP w0 A ps) (hN : notIn A S0) (hm : mayL n st ps = false) :
    Calls Try.prog 11 #[.pointer (some ⟨p, 0, none⟩), .slice A ps.length cap] w fun e w' => e = .returned (.tuple #[.slice none 0 0, .int .i64 1]) ∧ St w0 S0 w' L := by
  have s0 := H.alloc (.cells #[.pointer (some ⟨p, 0, none⟩)] 25)
  have KM := may_o8 s0 i hi ok A cap ps hlen hcap hR hN
  rw [hm] at KM
  replace KM := Lib.hid KM
  clear H hi ok hR hN hm s0
  refine (callsIn_wide (n := 6)).1 ?_
  refine callsIn_of_wp_marks Try.func11 rfl trivial ?_ rfl
  simp only [Try.ntmps11, List.size_toArray, List.length_cons, List.length_nil, Nat.reduceAdd, Nat.reduceSub, Array.replicate_succ, Array.replicate_zero, List.push_toArray, List.append_toArray, List.nil_append, List.cons_append]
  gi_wp2_with (refine ⟨trivial, ?_⟩; gi_at_call 9; refine (callsIn_wide.2 KM.out).mono ?_; rintro e w1 ⟨rfl, s1⟩; have S1 := Lib.hid s1; clear s1)
  refine ⟨.tuple #[.slice none 0 0, .int .i64 1], ?_, rfl, S1.out⟩
  simp [results, go_sem]
theorem gather_o (H : St w0 S0 w L) (i : Nat) (hi : L[i]? = some (PoolR p n st)) (hCy : ∀ R ∈ L, Cy 42 R) (ok : POK n st G) (A : Option Addr) (cap : Nat) (ps : List Pc) (hlen : ps.length ≤ cap) (hcap : cap ≤ maxLen) (hwf : ∀ q ∈ ps, q.wf) (hR : RdP w0 A ps) (hN : notIn A S0) (hm : mayL n st ps = true) :
    Calls Try.prog 11 #[.pointer (some ⟨p, 0, none⟩), .slice A ps.length cap] w fun e w' => ∃ B c, e = .returned (.tuple #[.slice B (gatP st ps).length c, .int .i64 0]) ∧ St w0 S0 w' (LisR 5 1 (.slice B (gatP st ps).length c) (gatP st ps).length (bys (gatP st ps)) :: L) := by
  obtain ⟨iU, hiU, hzU, hsU, hbU⟩ := info_parts Try.infoU8
  obtain ⟨_, _, hfit, hl1, hl16⟩ := may_wf ok hm
  obtain ⟨F, hF⟩ : ∃ F, gatP st ps = F := ⟨_, rfl⟩
  rw [hF]
  have HF := Lib.hid hF
  clear hF
  have hsz0 := H.size
  have s0 := H.box 25 #[.pointer (some ⟨p, 0, none⟩)]
  have hi0 : (L ++ [BlkR w.heap.size 25 #[.pointer (some ⟨p, 0, none⟩)]])[i]? = some (PoolR p n st) := by
    rw [List.getElem?_append_left (List.getElem?_eq_some_iff.1 hi).1]; exact hi
  obtain ⟨pb, hpb⟩ : ∃ pb, w.heap.size = pb := ⟨_, rfl⟩
  rw [hpb] at s0 hi0
  have hq0 : (L ++ [BlkR pb 25 #[.pointer (some ⟨p, 0, none⟩)]])[L.length]? = some (BlkR pb 25 #[.pointer (some ⟨p, 0, none⟩)]) := by simp
  have q0 := (s0.blk L.length hq0).one
  have KM := may_o8 s0 i hi0 ok A cap ps hlen hcap hR hN
  rw [hm] at KM
  replace KM := Lib.hid KM
  have HS0 := Lib.hid s0
  clear s0 hi0 H
  refine (callsIn_wide (n := 6)).1 ?_
  refine callsIn_of_wp_marks Try.func11 rfl trivial ?_ rfl
  simp only [Try.ntmps11, List.size_toArray, List.length_cons, List.length_nil, Nat.reduceAdd, Nat.reduceSub, Array.replicate_succ, Array.replicate_zero, List.push_toArray, List.append_toArray, List.nil_append, List.cons_append]
  gi_wp2_with (first
    | (refine ⟨trivial, ?_⟩; gi_at_call 9; refine (callsIn_wide.2 KM.out).mono ?_; rintro e w1 ⟨rfl, s1⟩; have S1 := Lib.hid s1; clear s1)
    | (refine ⟨trivial, ?_⟩; gi_at_call 26; refine (callsIn_wide.2 (parts_o _ _ _ _)).mono ?_; rintro e w' ⟨rfl, rfl⟩)
    | fail)
  have s2 := (S1.out.box 23 #[.slice none 0 0]).lis_nil 5 1
  obtain ⟨ab, hab⟩ : ∃ ab, w1.heap.size = ab := ⟨_, rfl⟩
  rw [hab] at s2 ⊢
  have s2' : St w0 S0 (w1.alloc (.cells #[.slice none 0 0] 23)) (L ++ gaL pb p ab none 0 0 []) := by
    have : ((L ++ [BlkR pb 25 #[.pointer (some ⟨p, 0, none⟩)]]) ++ [BlkR ab 23 #[.slice none 0 0]]) ++ [LisR 5 1 (.slice none 0 0) 0 []] = L ++ gaL pb p ab none 0 0 [] := by simp [gaL, bys]
    rw [← this]; exact s2
  have s3 := (St.comm (A := L) s2').alloc (.cells #[.slice A ps.length cap] 22)
  obtain ⟨V, hV⟩ : ∃ V, w1.alloc (.cells #[.slice none 0 0] 23) = V := ⟨_, rfl⟩
  have hVs : V.heap.size = ab + 1 := by rw [← hV, ← hab]; simp
  rw [hV] at s3 ⊢
  have bL := Boxed.new V 22 (.slice A ps.length cap)
  obtain ⟨W0, hW0⟩ : ∃ W0, V.alloc (.cells #[.slice A ps.length cap] 22) = W0 := ⟨_, rfl⟩
  have hsz : W0.heap.size = ab + 1 + 1 := by rw [← hW0]; simp [hVs]
  rw [hW0] at s3 bL ⊢
  rw [hVs] at bL
  have hss := S1.out.size
  rw [hab] at hss
  clear hW0 hV s2 s2' HS0 q0
  refine wpIn_rangeFunc_ownH (α := Coming ps) rfl (by omega) (gf := 37) (lb := #[.pointer (some ⟨ab + 1, 0, none⟩)]) rfl trivial (enters_of Try.func37 (by kernel_rfl) rfl)
    (parts_stopsM Fence.wide 5 trivial rfl (by omega) (ab + 1) cap A ps (by omega) hwf (rowK A w0.heap.size) (rowK_of hR) W0 (fun b hb => by have := hb.2; omega) (by omega) bL.cell (s3.rdp hR hN)) KpB.trans (fun W l o o' hl ho hc _ => KpB.put (B := w0.heap.size) (fun b hb => hb.2) W l o o' (by omega) ho hc) (Below.refl _ _) (fun _ => rfl)
    (fun pre W => ∃ B c, St w0 S0 W (gaL pb p ab B (gatP st (pcsOf pre)).length c (gatP st (pcsOf pre)) ++ L))
    (fun _ _ _ => False)
    (fun s X Y row hs hg hr => by
      obtain ⟨B, c, hs⟩ := hs
      exact ⟨B, c, hs.own (Cy.app (gaL_cy _ _ _ _ _ _ _) hCy) (by omega) hg hr⟩)
    (fun _ _ _ _ _ hs _ _ => hs)
    ⟨none, 0, s3⟩
    (fun x a' W => ∃ Bx, W.heap[Bx]? = some (Obj.cells #[.int .i64 x.1.2.s, .int .u64 x.1.2.g, .int .i64 x.1.2.f, .int .i64 x.1.2.m] 42 (0, 0)) ∧ a' = { tmps := #[.pointer (some ⟨p, 0, none⟩), .slice A ps.length cap, .pointer (some ⟨pb, 0, none⟩), undef, .slice none 0 0, .int .i64 0, .pointer (some ⟨ab, 0, none⟩), undef, .pointer (some ⟨Bx, 0, none⟩), undef, undef, .pointer (some ⟨p, 0, none⟩), .slice A ps.length cap, .bool true, .bool false, .slice A ps.length cap, .func (.func 37) #[] #[.pointer (some ⟨ab + 1, 0, none⟩)], .int .i64 x.1.1, .agg #[.int .i64 x.1.2.s, .int .u64 x.1.2.g, .int .i64 x.1.2.f, .int .i64 x.1.2.m], undef, undef, undef, undef, undef, undef, undef, undef, undef, undef, undef, undef, undef, undef, undef], defers := [] })
    (fun x a' _ X Y row hs hg hr => by
      obtain ⟨Bx, h2, h3⟩ := hs
      refine ⟨Bx, ?_, h3⟩
      rw [hg.block Bx (Array.getElem?_eq_some_iff.1 h2).1 (fun e => ?_)]
      · exact h2
      · obtain ⟨_, o, ho, hc⟩ := hr Bx e.symm
        rw [h2] at ho
        injection ho with ho
        subst ho
        cases hc)
    ?assign ?body ?done ?stop
  case assign =>
    rintro l pre x W K ⟨B, c, hst⟩ hK
    unfold encP
    gi_wp2
    exact hK _ _ ((KeepsOthers.alloc _ _).from _) (KpB.below ((Below.refl _ W).alloc (Nat.le_refl _) _) (fun b hb => Nat.lt_of_lt_of_le hb.2 hst.size)) ⟨B, c, hst.alloc _⟩ ⟨W.heap.size, World.alloc_heap_new W _, rfl⟩
  case body =>
    rintro l pre x a' W hl ⟨r, hr⟩ ⟨B, c, hst⟩ ⟨Bx, hc, rfl⟩ hlt
    have c0 : W.cell? ⟨Bx, 0, none⟩ = some (.int .i64 x.1.2.s) := by simp [World.cell?, hc]
    have c1 : W.cell? ⟨Bx, 1, none⟩ = some (.int .u64 x.1.2.g) := by simp [World.cell?, hc]
    have c2 : W.cell? ⟨Bx, 2, none⟩ = some (.int .i64 x.1.2.f) := by simp [World.cell?, hc]
    have c3 : W.cell? ⟨Bx, 3, none⟩ = some (.int .i64 x.1.2.m) := by simp [World.cell?, hc]
    obtain ⟨S, H, fin⟩ := hst.apart (Cy.app (gaL_cy _ _ _ _ _ _ _) hCy)
    have q0 := (H.blk 0 rfl).one
    have q1 := (H.blk 1 rfl).one
    have hmem : x.1.2 ∈ ps := comeP_mem x.2
    have hi3 : (gaL pb p ab B (gatP st (pcsOf pre)).length c (gatP st (pcsOf pre)) ++ L)[i + 3]? = some (PoolR p n st) := by
      rw [List.getElem?_append_right (by show 3 ≤ i + 3; omega)]; exact hi
    have KR := read_o H (i + 3) hi3 ok (fit_read ok (hfit _ hmem))
    rw [set_same' hi3] at KR
    have hgl := gat_le ok (pcsOf pre) (fun q hq => by
      obtain ⟨y, _, rfl⟩ := List.mem_map.1 hq
      exact hfit _ (comeP_mem y.2))
    have hpl : (pcsOf pre).length = pre.length := by simp [pcsOf]
    have hcl := cut_len st x.1.2 (fit_wf ok (hfit _ hmem))
    have hcm : x.1.2.m ≤ 65536 := by obtain ⟨_, _, h3, _⟩ := fitP_bd ok (hfit _ hmem); have := (fitP_bd ok (hfit _ hmem)).1; omega
    have hsn := gat_snoc st (pcsOf pre) x.1.2
    rw [← pcsOf_snoc] at hsn
    obtain ⟨xs, hxs⟩ : ∃ xs, cutP st x.1.2 = xs := ⟨_, rfl⟩
    obtain ⟨ys, hys⟩ : ∃ ys, gatP st (pcsOf pre) = ys := ⟨_, rfl⟩
    rw [hxs] at KR hcl hsn
    rw [hys] at H KR hsn hgl
    replace KR := Lib.hid KR
    have FIN := Lib.hid fin
    have HSN := Lib.hid hsn
    have HH := Lib.hid H
    have hxl : xs.length ≤ 65536 := by omega
    clear fin H hst hl hr hi3 hsn hxs hys hmem hcl
    gi_wp2_with fail
    refine ⟨trivial, ?_⟩
    refine (CallsIn.inRound l (callsIn_wide.2 KR.out)).mono ?_
    rintro e w2 ⟨B2, cp2, rfl, s4⟩
    have r1 := (s4.blk 1 rfl).one
    have f1 := (s4.blk 1 rfl).frozen
    have HL := Lib.hid (s4.lis 2 rfl)
    have hlx : (gaL pb p ab B ys.length c ys ++ L ++ [LisR 5 1 (.slice B2 xs.length cp2) xs.length (bys xs)])[L.length + 3]? = some (LisR 5 1 (.slice B2 xs.length cp2) xs.length (bys xs)) := by
      rw [List.getElem?_append_right (by simp [gaL])]
      simp [gaL]
    have RB := Lib.hid (s4.lis (L.length + 3) hlx).reads
    have S4 := Lib.hid s4
    clear s4 hlx
    gi_wp2_with (first
      | (gi_at_builtin; refine wpListIn_lis rfl (.tmp 30) (.tmp 31) 23 rfl 5 iU (.int .u8 0) 1 1 Try.underlying23 hiU hzU hsU hbU rfl (by decide) _ _ _ rfl HL.out _ xs.length cp2 (bys xs) rfl RB.out (bys_one xs) (by unfold maxLen; omega) (by omega) ?_; intro B6 c6 w6 hl6 hg6 hat6; have s5 := S4.out.lis_put 2 rfl hl6 hg6 hat6; have r2 := (s5.blk 1 rfl).one; have f2 := (s5.blk 1 rfl).frozen; have S6 := Lib.hid (s5.set_ 1 rfl 0 (.slice B6 (ys.length + xs.length) c6)); clear s5 hl6 hg6 hat6)
      | fail)
    have s7 := S6.out.take (L.length + 3)
    have e7 : ((gaL pb p ab B6 (ys.length + xs.length) c6 (ys ++ xs) ++ L) ++ [LisR 5 1 (.slice B2 xs.length cp2) xs.length (bys xs)]).take (L.length + 3) = gaL pb p ab B6 (ys.length + xs.length) c6 (ys ++ xs) ++ L := List.take_left' (by simp [gaL])
    have s8 : St W S (w6.setCell ⟨ab, 0, none⟩ (.slice B6 (ys.length + xs.length) c6)) (gaL pb p ab B6 (ys.length + xs.length) c6 (ys ++ xs) ++ L) := by
      rw [← e7]
      have hb : bys (ys ++ xs) = bys ys ++ bys xs := by simp [bys]
      simp only [gaL, hb]
      exact s7
    obtain ⟨k1, k2, k3⟩ := FIN.out _ _ s8
    exact ⟨k1.from _, k3 _ (fun b hb => ⟨hb.2, fun h => by obtain ⟨o, ho⟩ := hb.1; exact hN _ _ ho h⟩), B6, c6, by rw [HSN.out, List.length_append]; exact k2⟩
  case done =>
    rintro D zs W hD hz ⟨B, c, hst⟩ hK
    have q1 := (hst.blk 1 rfl).one
    have hpa := pcsOf_all hz
    rw [hpa, HF.out] at hst q1
    have s7 := hst.own (T := 42) (Cy.app (gaL_cy _ _ _ _ _ _ _) hCy) (Nat.le_refl _) (grownBy_putObj' _ D (.deferred none)) (fun r e => by cases e; exact ⟨by omega, _, hK, rfl⟩)
    have S7 := Lib.hid ((s7.drop 0 (Nat.zero_lt_succ _)).drop 0 (Nat.zero_lt_succ _))
    clear hst s7
    gi_wp2
    refine ⟨by simp, .inl ⟨_, _, rfl, run_takeDeferred hK, ?_⟩⟩
    refine ⟨.tuple #[.slice B F.length c, .int .i64 0], ?_, B, c, rfl, S7.out⟩
    simp [results, go_sem]
  case stop =>
    rintro D c pre W _ _ h _
    exact h.elim
end
end Go.Proofs.Ytiaojhjghededaa
