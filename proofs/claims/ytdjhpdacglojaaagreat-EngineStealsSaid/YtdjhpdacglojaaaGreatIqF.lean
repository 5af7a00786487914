/- Layer 20: a device: Go. Layer 20: a device: New. -/
import Derived.Test.YtdjhpdacglojaaaGreatIqD
import Derived.Test.YtdjhpdacglojaaaGreatLifB
namespace Go.Proofs.YtdjhpdacglojaaaGreat
open Go.RowKit
section
set_option linter.unusedVariables false
set_option maxRecDepth 100000
set_option maxHeartbeats 4000000
/-- Those that came out leave, one by one; one that was let in anew stays. -/
inductive GoS (n : Nat) (b' : Bk) : List Ft → Dv → Dv → Prop
  | nil (D : Dv) : GoS n b' [] D D
  | still (f : Ft) (l : List Ft) (D D' : Dv) : wfI f.id → (slotO b'.op f.id).isSome = true ∨ D.opn f.id = none → (∀ k, D.opn f.id = some k → k < D.nx) → GoS n b' l D D' → GoS n b' (f :: l) D D'
  | goes (f : Ft) (l : List Ft) (D D' : Dv) (k : Nat) (f2 c G : Int) (q' : od.OSt) (st' : Nat → po.Buf) : wfI f.id → (slotO b'.op f.id).isSome = false → D.opn f.id = some k → k < D.nx → (D.rq k).id = f.id → D.q.ok → po.POK n D.st G → od.DropP D.q f.id f2 q' → po.Via n D.st (D.rq k).slot (D.rq k).gen (po.GiveB (if (D.rq k).tk then 3 else 2) 1) c st' → GoS n b' l (D.outD k q' st') D' → GoS n b' (f :: l) D D'
theorem GoS.inv {n : Nat} {b' : Bk} {f : Ft} {l : List Ft} {D D' : Dv} (h : GoS n b' (f :: l) D D') : (((slotO b'.op f.id).isSome = true ∨ D.opn f.id = none) ∧ (∀ k, D.opn f.id = some k → k < D.nx) ∧ GoS n b' l D D') ∨
    ∃ (k : Nat) (f2 c G : Int) (q' : od.OSt) (st' : Nat → po.Buf), (slotO b'.op f.id).isSome = false ∧ D.opn f.id = some k ∧ k < D.nx ∧ (D.rq k).id = f.id ∧ D.q.ok ∧ po.POK n D.st G ∧ od.DropP D.q f.id f2 q' ∧ po.Via n D.st (D.rq k).slot (D.rq k).gen (po.GiveB (if (D.rq k).tk then 3 else 2) 1) c st' ∧ GoS n b' l (D.outD k q' st') D' := by
  cases h with
  | still _ _ _ _ h1 h2 h3 h4 => exact Or.inl ⟨h2, h3, h4⟩
  | goes _ _ _ _ k f2 c G q' st' h1 h2 h3 h4 h5 h6 h7 h8 h9 h10 => exact Or.inr ⟨k, f2, c, G, q', st', h2, h3, h4, h5, h6, h7, h8, h9, h10⟩
section
variable {w0 w w' : World} {S0 : Nat → Prop} {X N : List Res} {a : Da} {n sz : Nat} {bp : Nat → Nat} {D : Dv} {k : Nat} {u : Int}
theorem goD_o (H : St w0 S0 w (DvL a n sz bp D ++ X)) (hu : 0 ≤ u) (hun : D.b.un.length ≤ 90000) {W : List Ft → Dv} (hS : ∀ o, OutP D.b u o → GoS n (D.b.gon u) o { D with b := D.b.gon u } (W o)) :
    Calls Tryz.prog 22 #[ptrV a.d, .int .u64 u] w fun e w' => ∃ B m d o, e = .returned (.tuple #[.slice B m d, .int .i64 (goA D.b.now u)]) ∧ OutP D.b u o ∧ o.length = m ∧ m ≤ 91000 ∧ St w0 S0 w' (DvL a n sz bp (W o) ++ (X ++ [LisR 82 3 (.slice B m d) m (fvs o)])) := by
  obtain ⟨d0, d1, d2, d3, -⟩ := (dv_cells H).seven
  have K := Lib.hid (bGo_o (u := u) H 4 rfl hu hun)
  have HS := Lib.hid hS
  obtain ⟨ga, hga⟩ : ∃ ga, goA D.b.now u = ga := ⟨_, rfl⟩
  rw [hga] at K ⊢
  obtain ⟨b', hb'⟩ : ∃ b', D.b.gon u = b' := ⟨_, rfl⟩
  rw [hb'] at K HS
  clear H hS d0 d1 d2 hga hb'
  go_enter Tryz.func22, Tryz.ntmps22
  go_wp2_with fail
  refine K.out.mono ?_
  rintro e w1 ⟨B, m, dd, o, rfl, ho, hm, hm9, s1⟩
  have s1 : St w0 S0 w1 (DvL a n sz bp { D with b := b' } ++ (X ++ [LisR 82 3 (.slice B m dd) m (fvs o)])) := by
    have h : St w0 S0 w1 ((DvL a n sz bp { D with b := b' } ++ X) ++ [LisR 82 3 (.slice B m dd) m (fvs o)]) := s1
    rwa [List.append_assoc] at h
  have S1 := Lib.hid s1
  have GS := Lib.hid (HS.out o ho)
  have HO := Lib.hid (And.intro ho hm)
  clear s1 K HS ho hm d3
  go_wp2_with fail
  go_loopw [25] (fun x25 wr => ∃ (i : Nat) (E : Dv), i ≤ m ∧ x25 = .int .i64 (i : Int) ∧ GoS n b' (o.drop i) E (W o) ∧ E.b = b' ∧ St w0 S0 wr (DvL a n sz bp E ++ (X ++ [LisR 82 3 (.slice B m dd) m (fvs o)]))) (fun x _ => m - (intOf x).toNat)
  case atStart => exact ⟨0, _, by omega, rfl, GS.out, rfl, S1.out⟩
  case round =>
  clear S1 GS
  obtain ⟨i, E, hi, rfl, hgs, hEb, sr⟩ := hrel
  by_cases hlt : i < m
  · obtain ⟨f, hf⟩ : ∃ f, o[i]? = some f := ⟨_, List.getElem?_eq_getElem (by rw [HO.out.2]; exact hlt)⟩
    have hdr : o.drop i = f :: o.drop (i + 1) := by
      rw [List.drop_eq_getElem_cons (by rw [HO.out.2]; exact hlt)]
      congr 1
      exact Option.some.inj ((List.getElem?_eq_getElem _).symm.trans hf)
    rw [hdr] at hgs
    have hwf : wfI f.id := by cases hgs <;> assumption
    have y1 : decide ((i : Int) < (m : Int)) = true := decide_eq_true (by omega)
    have y1' : decide (i < m) = true := decide_eq_true hlt
    obtain ⟨c0, c1, c2⟩ := fvs_at o i f hf
    obtain ⟨gb, off, rfl, hcl⟩ := ((dv_back (N := [LisR 82 3 (.slice B m dd) m (fvs o)]) sr).lis 0 rfl).reads.2.resolve_left (by omega)
    have x0 := hcl _ _ c0
    have x1 := hcl _ _ c1
    have x2 := hcl _ _ c2
    rw [← Nat.add_assoc] at x1 x2
    obtain ⟨fid, fk, fw⟩ := f
    dsimp only at x0 x1 x2 hwf
    have s2 : St w0 S0 (wr.alloc (.cells #[.int .i64 fid, .int .i64 fk, .int .i64 fw] 82)) (DvL a n sz bp E ++ (X ++ [LisR 82 3 (.slice (some ⟨gb, off, none⟩) m dd) m (fvs o), BlkR wr.heap.size 82 #[.int .i64 fid, .int .i64 fk, .int .i64 fw]])) := by
      have h := sr.box 82 #[.int .i64 fid, .int .i64 fk, .int .i64 fw]
      rw [List.append_assoc, List.append_assoc] at h; exact h
    obtain ⟨fb, hfb⟩ : ∃ fb, wr.heap.size = fb := ⟨_, rfl⟩
    rw [hfb] at s2
    obtain ⟨NL, hNL⟩ : ∃ NL, [LisR 82 3 (.slice (some ⟨gb, off, none⟩) m dd) m (fvs o), BlkR fb 82 #[.int .i64 fid, .int .i64 fk, .int .i64 fw]] = NL := ⟨_, rfl⟩
    have CE := Lib.hid (show ∀ (V : World) (F : Dv), St w0 S0 V (DvL a n sz bp F ++ (X ++ NL)) → V.cell? ⟨a.d, 3, none⟩ = some (ptrV a.bb) ∧ V.cell? ⟨a.d, 5, none⟩ = some (.map (some a.mo)) ∧ V.cell? ⟨fb, 0, none⟩ = some (.int .i64 fid) from fun V F s => by
      subst hNL
      exact ⟨(dv_cells s).seven.2.2.2.1, (dv_cells s).seven.2.2.2.2.2.1, ((dv_back s).blk 1 rfl).three.1⟩)
    have DROP := Lib.hid (show ∀ (V : World) (F : Dv), St w0 S0 V (DvL a n sz bp F ++ (X ++ NL)) → St w0 S0 V (DvL a n sz bp F ++ (X ++ [LisR 82 3 (.slice (some ⟨gb, off, none⟩) m dd) m (fvs o)])) from fun V F s => by
      subst hNL
      exact dv_front (N := [LisR 82 3 (.slice (some ⟨gb, off, none⟩) m dd) m (fvs o)]) ((dv_back s).drop 1 (by simp)))
    rw [hNL] at s2
    obtain ⟨y3, y5, y0⟩ := CE.out _ _ s2
    have K2 := Lib.hid (bHas_o (id := fid) s2.drew 4 rfl hwf)
    rw [hEb] at K2
    have S2 := Lib.hid s2
    have HGS := Lib.hid hgs
    have HW := Lib.hid hwf
    have HEB := Lib.hid hEb
    clear sr hcl c0 c1 c2 hdr hgs hwf hf s2 hNL hEb
    obtain ⟨sti, hsti⟩ : ∃ sti, (slotO b'.op fid).isSome = sti := ⟨_, rfl⟩
    obtain ⟨dea, hdea⟩ : ∃ dea, deadO b'.op fid = dea := ⟨_, rfl⟩
    rw [hsti, hdea] at K2
    have HST := Lib.hid hsti
    clear hsti hdea
    go_upto_region 5 with (fail)
    clear x0 x1 x2
    generalize wr.alloc (.cells #[.int .i64 fid, .int .i64 fk, .int .i64 fw] 82) = wd at *
    go_cut [11] (fun x11 wx => x11 = .bool sti ∧ St w0 S0 wx (DvL a n sz bp E ++ (X ++ NL)))
    case first =>
      have qq := And.intro y3 y0
      go_wp2_with fail
      go_region_held3 (fun w' => w'.cell? ⟨a.d, 3, none⟩ = some (ptrV a.bb) ∧ w'.cell? ⟨fb, 0, none⟩ = some (.int .i64 fid)) (go_keep)
        (first
          | (go_at_call 79; refine K2.out.mono ?_; rintro e w5 ⟨rfl, s5⟩; have S5 := Lib.hid s5; have q5 := And.intro (CE.out _ _ s5).1 (CE.out _ _ s5).2.2; clear s5))
      go_wp2_with fail
      go_meet
      exact ⟨rfl, S5.out⟩
    case rest =>
    obtain ⟨rfl, s6⟩ := hcut
    clear y3 y5 y0 K2 S2
    obtain ⟨y3, y5, y0⟩ := CE.out _ _ s6
    have LK := (s6.drew.mapi 5 rfl).look (t := 106) (e := 117) Tryz.underlying3 Tryz.underlying106 (zeroP _) HW.out
    obtain ⟨rv, hrv⟩ : ∃ rv, (reqM bp E.opn fid).getD (.pointer none) = rv := ⟨_, rfl⟩
    obtain ⟨rs, hrs⟩ : ∃ rs, (reqM bp E.opn fid).isSome = rs := ⟨_, rfl⟩
    rw [hrv, hrs] at LK
    have HRV := Lib.hid (And.intro hrv hrs)
    have S6 := Lib.hid s6
    clear s6 hrv hrs y3
    go_upto_region 6 with (fail)
    go_cut [12, 13] (fun x12 x13 wx => x12 = rv ∧ x13 = .bool rs ∧ St w0 S0 wx (DvL a n sz bp E ++ (X ++ NL)))
    case first =>
      go_wp2_with fail
      go_region
      all_goals
        go_wp2_with fail
        go_meet
        exact ⟨rfl, rfl, S6.out.drew⟩
    case rest =>
    obtain ⟨hx12, rfl, s7⟩ := hcut
    clear y5 y0 LK S6
    have S7 := Lib.hid s7
    clear s7
    rcases HGS.out.inv with ⟨hst, -, hnext⟩ | ⟨k', f2, c, G, q', st', h1, h2, h3, h4, h5, h6, h7, h8, hnext⟩
    · have HNX := Lib.hid hnext
      have HIM := Lib.hid (show rs = true → sti = true from fun hr => by
        rcases hst with h | h
        · rw [← HST.out]; exact h
        · have h2 := HRV.out.2
          have h : E.opn fid = none := h
          unfold reqM at h2
          rw [h, hr] at h2; cases h2)
      clear hst hnext hx12
      cases rs with
      | false =>
        go_wp2_with fail
        go_roundw
        case rel => exact ⟨i + 1, E, by omega, by go_num, HNX.out, HEB.out, DROP.out _ _ S7.out⟩
        case measure => simp [intOf]; omega
      | true =>
        obtain rfl : sti = true := HIM.out rfl
        go_wp2_with fail
        go_roundw
        case rel => exact ⟨i + 1, E, by omega, by go_num, HNX.out, HEB.out, DROP.out _ _ S7.out⟩
        case measure => simp [intOf]; omega
    · have HNX := Lib.hid hnext
      have h2 : E.opn fid = some k' := h2
      obtain rfl : sti = false := HST.out.symm.trans h1
      obtain rfl : rs = true := by
        have h := HRV.out.2
        unfold reqM at h
        rw [h2] at h; exact h.symm
      obtain rfl : rv = ptrV (bp k') := by
        have h := HRV.out.1
        unfold reqM at h
        rw [h2] at h; exact h.symm
      subst hx12
      have K3 := Lib.hid (outD_o (k := k') (f := f2) (c := c) (q' := q') (st' := st') S7.out h3 (by rw [h4]; exact HW.out) h5 h6 (by rw [h4]; exact h7) h8)
      clear h1 h2 h4 h5 h6 h7 h8 hnext HRV
      go_wp2_with fail
      refine K3.out.mono ?_
      rintro e w8 ⟨rfl, s8⟩
      have S8 := Lib.hid (DROP.out _ _ s8)
      clear s8 K3
      go_wp2_with fail
      go_roundw
      case rel => exact ⟨i + 1, _, by omega, by go_num, HNX.out, HEB.out, S8.out⟩
      case measure => simp [intOf]; omega
  · obtain rfl : i = m := by omega
    have y1 : decide ((i : Int) < (i : Int)) = false := decide_eq_false (by omega)
    have y1' : decide (i < i) = false := decide_eq_false hlt
    have hE : E = W o := by
      rw [List.drop_eq_nil_of_le (by rw [HO.out.2]; exact Nat.le_refl _)] at hgs
      generalize W o = V at hgs ⊢
      cases hgs; rfl
    rw [hE] at sr
    have SR := Lib.hid sr
    clear sr hgs hlt hE hEb
    go_wp2_with fail
    go_ret2
    exact ⟨B, i, dd, o, rfl, HO.out.1, HO.out.2, hm9, SR.out⟩
end
end
section
set_option linter.unusedVariables false
set_option maxRecDepth 100000
set_option maxHeartbeats 4000000
section
variable {w0 w w' : World} {S0 : Nat → Prop} {X N : List Res}
/-- Things side by side in another order. -/
theorem St.perm {L L' : List Res} (hp : L.Perm L') : ∀ (A : List Res), St w0 S0 w (A ++ L) → St w0 S0 w (A ++ L') := by
  induction hp with
  | nil => exact fun A h => h
  | cons x _ ih => intro A h; have := ih (A ++ [x]) (by simpa using h); simpa using this
  | swap x y l =>
    intro A h
    have h1 : St w0 S0 w ((y :: x :: l) ++ A) := h.comm
    have h2 : St w0 S0 w (x :: y :: (l ++ A)) := St.swap01 h1
    exact St.comm (A := x :: y :: l) (B := A) h2
  | trans _ _ ih1 ih2 => exact fun A h => ih2 A (ih1 A h)
theorem perm_of (L : List Res) (I : List Nat) (h : (List.range L.length).Perm I) : L.Perm (I.map fun i => L.getD i (fun _ _ => True)) := by
  have h1 := h.map fun i => L.getD i (fun _ _ => True)
  have e : ((List.range L.length).map fun i => L.getD i (fun _ _ => True)) = L := by
    apply List.ext_getElem
    · simp
    · intro i h1 h2; simp at h1 ⊢; simp [h1]
  rwa [e] at h1
theorem St.many_none {L : List Res} (h : St w0 S0 w L) (t : TypeId) {live : Nat → Prop} (hl : ∀ k, ¬ live k) (bp : Nat → Nat) (cs : Nat → Array Value) : St w0 S0 w (L ++ [ManyR t live bp cs]) :=
  h.more (Below.refl _ _) (Star.one (ManyR.ok _ _ _ _) ⟨fun k hk => (hl k hk).elim, fun j _ hj => (hl j hj).elim, fun b => ⟨fun hb => hb.elim, fun ⟨k, hk, _⟩ => (hl k hk).elim⟩⟩ : Star [ManyR t live bp cs] w (fun _ => False)) (fun b hb => hb.elim)
def Dv.new (st : Nat → po.Buf) (c : Int) : Dv := ⟨st, od.OSt.new, ri.RSt.new, Bk.new c, 0, fun _ => ⟨0, 0, 0, 0, 0, 0, 0, 0, false, false, false, false⟩, fun _ => none, fun _ => none⟩
theorem newD_o {p n sz : Nat} {st : Nat → po.Buf} (H : St w0 S0 w (po.PoolR p n st :: X)) (bp : Nat → Nat) {c : Int} (h0 : 1 ≤ sz) (h1 : sz ≤ 64) (hc : newA c = 0) :
    Calls Tryz.prog 34 #[ptrV p, .int .i64 (sz : Int), .int .u64 c] w fun e w' => ∃ a : Da, a.p = p ∧ e = .returned (.tuple #[ptrV a.d, .int .i64 0]) ∧ St w0 S0 w' (DvL a n sz bp (Dv.new st c) ++ X) := by
  have K0 := Lib.hid (ri.New_o (n := sz) H h0 h1)
  have HC := Lib.hid hc
  have hmm := @run_makeMap Tryz.prog
  clear H hc
  go_enter Tryz.func34, Tryz.ntmps34
  go_wp2_with fail
  refine K0.out.mono ?_
  rintro e w1 ⟨rb, rfl, s1⟩
  have K1 := Lib.hid (bNew_o (c := c) s1 HC.out)
  clear s1 K0
  go_wp2_with fail
  refine K1.out.mono ?_
  rintro e w2 ⟨bb, rfl, s2⟩
  have K2 := Lib.hid (od.New_o s2)
  clear s2 K1
  go_wp2_with fail
  refine K2.out.mono ?_
  rintro e w3 ⟨qb, rfl, s3⟩
  have S3 := Lib.hid s3
  clear s3 K2
  have s4 := ((S3.out.map_new Tryz.prog 3).map_new Tryz.prog 3)
  obtain ⟨mo, hmo⟩ : ∃ mo, w3.heap.size = mo := ⟨_, rfl⟩
  have e1 : (w3.alloc (.map #[] 0)).heap.size = mo + 1 := by rw [← hmo]; simp
  rw [e1, hmo] at s4
  have e2 : ((w3.alloc (.map #[] 0)).alloc (.map #[] 0)).heap.size = mo + 1 + 1 := by rw [← hmo]; simp
  have s5 := s4.box 108 (devV ⟨mo + 1 + 1, p, qb, rb, bb, mo, mo + 1⟩ sz)
  rw [e2] at s5
  have s6 := s5.many_none 119 (live := fun k => k < (Dv.new st c).nx) (fun k => Nat.not_lt_zero k) bp (fun k => ((Dv.new st c).rq k).cells)
  obtain ⟨wf, hwf⟩ : ∃ wf, ((w3.alloc (.map #[] 0)).alloc (.map #[] 0)).alloc (.cells (devV ⟨mo + 1 + 1, p, qb, rb, bb, mo, mo + 1⟩ sz) 108) = wf := ⟨_, rfl⟩
  rw [hwf] at s6
  have s7 : St w0 S0 wf ((po.PoolR p n st :: X) ++ [ri.RingR rb sz ri.RSt.new, BookR bb (Bk.new c), od.OQR qb od.OSt.new, MapR Tryz.prog 3 mo 0 (fun _ => none), MapR Tryz.prog 3 (mo + 1) 0 (fun _ => none), BlkR (mo + 1 + 1) 108 (devV ⟨mo + 1 + 1, p, qb, rb, bb, mo, mo + 1⟩ sz), ManyR 119 (fun k => k < (Dv.new st c).nx) bp (fun k => ((Dv.new st c).rq k).cells)]) := by
    simp only [List.append_assoc, List.cons_append, List.nil_append] at s6 ⊢
    exact s6
  have s8 := s7.comm
  have s9 : St w0 S0 wf ([ri.RingR rb sz ri.RSt.new, BookR bb (Bk.new c), od.OQR qb od.OSt.new, MapR Tryz.prog 3 mo 0 (fun _ => none), MapR Tryz.prog 3 (mo + 1) 0 (fun _ => none), BlkR (mo + 1 + 1) 108 (devV ⟨mo + 1 + 1, p, qb, rb, bb, mo, mo + 1⟩ sz), ManyR 119 (fun k => k < (Dv.new st c).nx) bp (fun k => ((Dv.new st c).rq k).cells), po.PoolR p n st] ++ X) := s8
  have s10 := St.perm (perm_of [ri.RingR rb sz ri.RSt.new, BookR bb (Bk.new c), od.OQR qb od.OSt.new, MapR Tryz.prog 3 mo 0 (fun _ => none), MapR Tryz.prog 3 (mo + 1) 0 (fun _ => none), BlkR (mo + 1 + 1) 108 (devV ⟨mo + 1 + 1, p, qb, rb, bb, mo, mo + 1⟩ sz), ManyR 119 (fun k => k < (Dv.new st c).nx) bp (fun k => ((Dv.new st c).rq k).cells), po.PoolR p n st] [5, 7, 2, 0, 1, 3, 4, 6] (show (List.range 8).Perm [5, 7, 2, 0, 1, 3, 4, 6] from by decide)) X s9.comm
  have S11 := Lib.hid (show St w0 S0 wf (DvL ⟨mo + 1 + 1, p, qb, rb, bb, mo, mo + 1⟩ n sz bp (Dv.new st c) ++ X) from s10.comm)
  clear s4 s5 s6 s7 s8 s9 s10
  have HWF := Lib.hid hwf
  clear hwf
  go_wp2_with fail
  go_ret2
  refine ⟨⟨mo + 1 + 1, p, qb, rb, bb, mo, mo + 1⟩, rfl, rfl, ?_⟩
  have h := S11.out
  rw [← HWF.out] at h; exact h
end
end
end Go.Proofs.YtdjhpdacglojaaaGreat
