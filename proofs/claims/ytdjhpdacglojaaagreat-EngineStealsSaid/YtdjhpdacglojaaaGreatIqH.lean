/- Layer 20: a device: Write. Layer 20: a device: Start. -/
import Derived.Test.YtdjhpdacglojaaaGreatIqF
namespace Go.Proofs.YtdjhpdacglojaaaGreat
open Go.RowKit
section
set_option linter.unusedVariables false
set_option maxRecDepth 100000
set_option maxHeartbeats 4000000
section
variable {w0 w w' : World} {S0 : Nat → Prop} {X N : List Res} {a : Da} {n sz : Nat} {bp : Nat → Nat} {D : Dv} {k : Nat} {G cw : Int} {st' : Nat → po.Buf} {no at' : Int} {xs : List Int}
/-- Whether the device may write behind a descriptor. -/
def mayWr (D : Dv) (no : Int) (k : Nat) : Prop := D.pst no = some k ∧ (D.rq k).tk = true ∧ (D.rq k).fi = false ∧ (D.rq k).vo = false
def inPc (r : Rq) (at' : Int) (m : Nat) : Prop := 0 ≤ at' ∧ at' ≤ r.len ∧ (m : Int) ≤ r.len - at'
def WrP (n : Nat) (D : Dv) (no at' : Int) (xs : List Int) (cw : Int) (st' : Nat → po.Buf) : Prop :=
  ((∀ k, ¬ mayWr D no k) ∧ cw = 12 ∧ st' = D.st) ∨ ∃ k, mayWr D no k ∧ ((¬ inPc (D.rq k) at' xs.length ∧ cw = 1 ∧ st' = D.st) ∨ (inPc (D.rq k) at' xs.length ∧ po.Via n D.st (D.rq k).slot (D.rq k).gen (po.WriteB 3 ((D.rq k).frm + at') xs) cw st'))
theorem wrP_ex (n : Nat) (D : Dv) (no at' : Int) (xs : List Int) : ∃ cw st', WrP n D no at' xs cw st' := by
  by_cases h : ∃ k, mayWr D no k
  · obtain ⟨k, h⟩ := h
    by_cases h2 : inPc (D.rq k) at' xs.length
    · obtain ⟨c, st', hv⟩ := po.via_ex (n := n) (st := D.st) (x := (D.rq k).slot) (g := (D.rq k).gen) (po.write_b 3 ((D.rq k).frm + at') xs)
      exact ⟨c, st', Or.inr ⟨k, h, Or.inr ⟨h2, hv⟩⟩⟩
    · exact ⟨1, D.st, Or.inr ⟨k, h, Or.inl ⟨h2, rfl, rfl⟩⟩⟩
  · exact ⟨12, D.st, Or.inl ⟨fun k hk => h ⟨k, hk⟩, rfl, rfl⟩⟩
theorem wrD_o (H : St w0 S0 w (DvL a n sz bp D ++ X)) (ok : po.POK n D.st G) {A : Option Addr} {cp : Nat} (hx : xs.length ≤ maxLen) (hr : Rds w A xs.length 1 (po.bys xs)) (hno : wfI no)
    (hl : ∀ k, D.pst no = some k → k < D.nx ∧ (0 ≤ (D.rq k).frm ∧ (D.rq k).frm ≤ 70000) ∧ 0 ≤ (D.rq k).len ∧ (D.rq k).len ≤ 70000) (hP : WrP n D no at' xs cw st') :
    Calls Tryz.prog 127 #[ptrV a.d, .int .i64 no, .int .i64 at', .slice A xs.length cp] w fun e w' => e = .returned (.int .i64 cw) ∧ St w0 S0 w' (DvL a n sz bp { D with st := st' } ++ X) := by
  obtain ⟨d0, d1, d2, d3, d4, d5, d6⟩ := (dv_cells H).seven
  have LK := (H.mapi 6 rfl).look (t := 106) (e := 117) Tryz.underlying3 Tryz.underlying106 (zeroP w) hno
  have DS := Lib.hid (show ∀ V, St w0 S0 V (DvL a n sz bp D ++ X) → st' = D.st → St w0 S0 V (DvL a n sz bp { D with st := st' } ++ X) from fun V s e => by subst e; exact s)
  have SH := Lib.hid H
  have HP := Lib.hid hP
  have HL := Lib.hid hl
  have HX := Lib.hid hx
  have HR := Lib.hid hr
  have OK := Lib.hid ok
  clear H hP hl hx hr ok hno
  cases hps : D.pst no with
  | none =>
    rw [show reqM bp D.pst no = none by unfold reqM; rw [hps]; rfl] at LK
    have z : cw = 12 ∧ st' = D.st := by
      rcases HP.out with ⟨_, h1, h2⟩ | ⟨k, hk, _⟩
      · exact ⟨h1, h2⟩
      · rw [hk.1] at hps; cases hps
    obtain ⟨rfl, hst⟩ := z
    have HST := Lib.hid hst
    clear HP hst hps
    go_enter Tryz.func127, Tryz.ntmps127
    go_wp2_with fail
    go_ret
    exact ⟨rfl, DS.out _ SH.out HST.out⟩
  | some k =>
    rw [show reqM bp D.pst no = some (ptrV (bp k)) by unfold reqM; rw [hps]; rfl] at LK
    obtain ⟨hkn, ⟨hf0, hf1⟩, hl0, hl1⟩ := HL.out k hps
    have CE := Lib.hid (show ∀ (V : World), St w0 S0 V (DvL a n sz bp D ++ X) → V.cell? ⟨bp k, 8, none⟩ = some (.bool (D.rq k).tk) ∧ V.cell? ⟨bp k, 9, none⟩ = some (.bool (D.rq k).fi) ∧ V.cell? ⟨bp k, 11, none⟩ = some (.bool (D.rq k).vo) ∧ V.cell? ⟨bp k, 4, none⟩ = some (.int .i64 (D.rq k).slot) ∧ V.cell? ⟨bp k, 5, none⟩ = some (.int .u64 (D.rq k).gen) ∧ V.cell? ⟨bp k, 6, none⟩ = some (.int .i64 (D.rq k).frm) ∧ V.cell? ⟨bp k, 7, none⟩ = some (.int .i64 (D.rq k).len) from fun V s => by
      have b := dv_req s hkn
      exact ⟨b.cell 8, b.cell 9, b.cell 11, b.cell 4, b.cell 5, b.cell 6, b.cell 7⟩)
    obtain ⟨c8, c9, c11, c4, c5, c6, c7⟩ := CE.out _ SH.out
    have HPS := Lib.hid hps
    obtain ⟨tk, htk⟩ : ∃ tk, (D.rq k).tk = tk := ⟨_, rfl⟩
    obtain ⟨fi, hfi⟩ : ∃ fi, (D.rq k).fi = fi := ⟨_, rfl⟩
    obtain ⟨vo, hvo⟩ : ∃ vo, (D.rq k).vo = vo := ⟨_, rfl⟩
    obtain ⟨ln, hln⟩ : ∃ ln, (D.rq k).len = ln := ⟨_, rfl⟩
    obtain ⟨fr, hfr⟩ : ∃ fr, (D.rq k).frm = fr := ⟨_, rfl⟩
    obtain ⟨sl, hsl⟩ : ∃ sl, (D.rq k).slot = sl := ⟨_, rfl⟩
    obtain ⟨ge, hge⟩ : ∃ ge, (D.rq k).gen = ge := ⟨_, rfl⟩
    have HC := Lib.hid (show ((tk = false ∨ fi = true ∨ vo = true) → cw = 12 ∧ st' = D.st) ∧ (tk = true → fi = false → vo = false → (¬ (0 ≤ at' ∧ at' ≤ ln ∧ (xs.length : Int) ≤ ln - at') → cw = 1 ∧ st' = D.st) ∧ ((0 ≤ at' ∧ at' ≤ ln ∧ (xs.length : Int) ≤ ln - at') → po.Via n D.st sl ge (po.WriteB 3 (fr + at') xs) cw st')) by
      subst htk hfi hvo hln hfr hsl hge
      rcases HP.out with ⟨hn, h1, h2⟩ | ⟨k', hk', hh⟩
      · refine ⟨fun _ => ⟨h1, h2⟩, fun e1 e2 e3 => absurd ⟨HPS.out, e1, e2, e3⟩ (hn k)⟩
      · obtain rfl : k' = k := by have := hk'.1; rw [HPS.out] at this; exact (Option.some.inj this).symm
        refine ⟨fun h => ?_, fun _ _ _ => ?_⟩
        · obtain ⟨_, e1, e2, e3⟩ := hk'
          rcases h with h | h | h
          · rw [e1] at h; cases h
          · rw [e2] at h; cases h
          · rw [e3] at h; cases h
        · rcases hh with ⟨h1, h2⟩ | ⟨h1, h2⟩
          · exact ⟨fun _ => h2, fun h => absurd h h1⟩
          · exact ⟨fun h => absurd h1 h, fun _ => h2⟩)
    rw [htk] at c8
    rw [hfi] at c9
    rw [hvo] at c11
    rw [hsl] at c4
    rw [hge] at c5
    rw [hfr] at c6 hf0 hf1
    rw [hln] at c7 hl0 hl1
    have CE1 := Lib.hid (show ∀ (V : World), St w0 S0 V (DvL a n sz bp { D with st := st' } ++ X) → V.cell? ⟨bp k, 4, none⟩ = some (.int .i64 sl) ∧ V.cell? ⟨bp k, 5, none⟩ = some (.int .u64 ge) ∧ V.cell? ⟨bp k, 6, none⟩ = some (.int .i64 fr) from fun V s => by
      have b : Blk V (bp k) 119 (D.rq k).cells := dv_req (D := { D with st := st' }) s hkn
      rw [← hsl, ← hge, ← hfr]
      exact ⟨b.cell 4, b.cell 5, b.cell 6⟩)
    clear HP hps htk hfi hvo hln hfr hsl hge CE HPS HL
    by_cases hs : tk = true ∧ fi = false ∧ vo = false
    · obtain ⟨rfl, rfl, rfl⟩ := hs
      have HC2 := Lib.hid (HC.out.2 rfl rfl rfl)
      clear HC
      by_cases h1 : at' < 0
      · have t1 : decide (at' < 0) = true := decide_eq_true h1
        obtain ⟨rfl, hst⟩ := HC2.out.1 (fun h => absurd h.1 (by omega))
        have HST := Lib.hid hst
        clear hst HC2 h1
        go_enter Tryz.func127, Tryz.ntmps127
        go_wp2_with fail
        go_ret
        exact ⟨rfl, DS.out _ SH.out HST.out⟩
      · have t1 : decide (at' < 0) = false := decide_eq_false h1
        by_cases h2 : ln < at'
        · have t2 : decide (ln < at') = true := decide_eq_true h2
          obtain ⟨rfl, hst⟩ := HC2.out.1 (fun h => absurd h.2.1 (by omega))
          have HST := Lib.hid hst
          clear hst HC2 h1 h2
          go_enter Tryz.func127, Tryz.ntmps127
          go_wp2_with fail
          go_ret
          exact ⟨rfl, DS.out _ SH.out HST.out⟩
        · have t2 : decide (ln < at') = false := decide_eq_false h2
          have tw : IntKind.i64.wrap (ln - at') = ln - at' := IntWalk.i64_in _ ⟨by omega, by omega⟩
          by_cases h3 : ln - at' < (xs.length : Int)
          · have t3 : decide (ln - at' < (xs.length : Int)) = true := decide_eq_true h3
            obtain ⟨rfl, hst⟩ := HC2.out.1 (fun h => absurd h.2.2 (by omega))
            have HST := Lib.hid hst
            clear hst HC2 h1 h2 h3
            go_enter Tryz.func127, Tryz.ntmps127
            go_wp2_with fail
            go_ret
            exact ⟨rfl, DS.out _ SH.out HST.out⟩
          · have t3 : decide (ln - at' < (xs.length : Int)) = false := decide_eq_false h3
            have aw : IntKind.i64.wrap (fr + at') = fr + at' := IntWalk.i64_in _ ⟨by omega, by omega⟩
            have K := Lib.hid (po.write_o SH.out.drew 1 rfl OK.out (HC2.out.2 ⟨by omega, by omega, by omega⟩) (A := A) (cp := cp) HX.out (po.rds_below HR.out (Below.refl _ _).drew))
            have CE2 := Lib.hid (show ∀ V, St w0 S0 V (DvL a n sz bp { D with st := st' } ++ X) → V.cell? ⟨a.d, 0, none⟩ = some (ptrV a.p) ∧ V.cell? ⟨bp k, 4, none⟩ = some (.int .i64 sl) ∧ V.cell? ⟨bp k, 5, none⟩ = some (.int .u64 ge) ∧ V.cell? ⟨bp k, 6, none⟩ = some (.int .i64 fr) from fun V s => ⟨(dv_cells s).seven.1, CE1.out V s⟩)
            clear HC2 h1 h2 h3
            have qq := And.intro d0 (And.intro c4 (And.intro c5 c6))
            go_enter Tryz.func127, Tryz.ntmps127
            go_wp2_with fail
            go_region_held3 (fun w' => w'.cell? ⟨a.d, 0, none⟩ = some (ptrV a.p) ∧ w'.cell? ⟨bp k, 4, none⟩ = some (.int .i64 sl) ∧ w'.cell? ⟨bp k, 5, none⟩ = some (.int .u64 ge) ∧ w'.cell? ⟨bp k, 6, none⟩ = some (.int .i64 fr)) (go_keep)
              (first
                | (go_at_call 156; refine K.out.mono ?_; rintro e w5 ⟨rfl, s5⟩; have S5 := Lib.hid (show St w0 S0 w5 (DvL a n sz bp { D with st := st' } ++ X) from s5); have q5 := CE2.out _ s5; clear s5))
            go_wp2_with fail
            go_ret
            exact ⟨rfl, S5.out⟩
    · have z : cw = 12 ∧ st' = D.st := HC.out.1 (by
        cases tk with
        | false => exact Or.inl rfl
        | true =>
          cases fi with
          | true => exact Or.inr (Or.inl rfl)
          | false =>
            cases vo with
            | true => exact Or.inr (Or.inr rfl)
            | false => exact absurd ⟨rfl, rfl, rfl⟩ hs)
      obtain ⟨rfl, hst⟩ := z
      have HST := Lib.hid hst
      clear HC hst
      cases tk with
      | false =>
        clear hs
        go_enter Tryz.func127, Tryz.ntmps127
        go_wp2_with fail
        go_ret
        exact ⟨rfl, DS.out _ SH.out HST.out⟩
      | true =>
        cases fi with
        | true =>
          clear hs
          go_enter Tryz.func127, Tryz.ntmps127
          go_wp2_with fail
          go_ret
          exact ⟨rfl, DS.out _ SH.out HST.out⟩
        | false =>
          cases vo with
          | true =>
            clear hs
            go_enter Tryz.func127, Tryz.ntmps127
            go_wp2_with fail
            go_ret
            exact ⟨rfl, DS.out _ SH.out HST.out⟩
          | false => exact absurd ⟨rfl, rfl, rfl⟩ hs
end
end
section
set_option linter.unusedVariables false
set_option maxRecDepth 100000
set_option maxHeartbeats 4000000
def Rq.dsc (r : Rq) : ri.Dsc := ⟨r.op, r.id, r.slot, r.gen, r.frm, r.len, false, false, 0⟩
/-- Once one is started. -/
def Dv.stD (D : Dv) (k : Nat) (q' : od.OSt) (g' : ri.RSt) : Dv := { D with q := q', g := g', pst := updK D.pst (D.g.put : Int) (some k) }
/-- Those that wait are started, one by one. -/
inductive StS (sz : Nat) : List Int → Dv → Dv → Prop
  | full (D : Dv) : D.g.ok sz → D.g.put = D.g.reaped + sz → StS sz [] D D
  | none (D : Dv) (x : od.Wt) (f : Int) : D.g.ok sz → D.g.put < D.g.reaped + sz → D.q.ok → od.TakeP D.q x f D.q → f ≠ 0 → StS sz [] D D
  | goes (D D' : Dv) (ids : List Int) (x : od.Wt) (q' : od.OSt) (k : Nat) (g' : ri.RSt) : D.g.ok sz → D.g.put < D.g.reaped + sz → D.q.ok → od.TakeP D.q x 0 q' → D.opn x.id = some k → k < D.nx → (D.rq k).id = x.id → ri.PutP sz D.g (D.rq k).dsc (D.g.put : Int) 0 g' → g'.put = D.g.put + 1 → (D.rq k).dsc.fits → D.g.put + 1 ≤ 1000000 → wfI x.id → StS sz ids (D.stD k q' g') D' → StS sz (x.id :: ids) D D'
theorem StS.inv {sz : Nat} {l : List Int} {D D' : Dv} (h : StS sz l D D') : (l = [] ∧ D' = D ∧ D.g.ok sz ∧ D.g.put = D.g.reaped + sz) ∨ (l = [] ∧ D' = D ∧ D.g.ok sz ∧ D.g.put < D.g.reaped + sz ∧ D.q.ok ∧ ∃ x f, od.TakeP D.q x f D.q ∧ f ≠ 0) ∨
    ∃ (ids : List Int) (x : od.Wt) (q' : od.OSt) (k : Nat) (g' : ri.RSt), l = x.id :: ids ∧ D.g.ok sz ∧ D.g.put < D.g.reaped + sz ∧ D.q.ok ∧ od.TakeP D.q x 0 q' ∧ D.opn x.id = some k ∧ k < D.nx ∧ (D.rq k).id = x.id ∧ ri.PutP sz D.g (D.rq k).dsc (D.g.put : Int) 0 g' ∧ g'.put = D.g.put + 1 ∧ (D.rq k).dsc.fits ∧ D.g.put + 1 ≤ 1000000 ∧ wfI x.id ∧ StS sz ids (D.stD k q' g') D' := by
  cases h with
  | full _ h1 h2 => exact Or.inl ⟨rfl, rfl, h1, h2⟩
  | none _ x f h1 h2 h3 h4 h5 => exact Or.inr (Or.inl ⟨rfl, rfl, h1, h2, h3, x, f, h4, h5⟩)
  | goes _ _ ids x q' k g' h1 h2 h3 h4 h5 h6 h7 h8 h9 h10 h11 h12 h13 => exact Or.inr (Or.inr ⟨ids, x, q', k, g', rfl, h1, h2, h3, h4, h5, h6, h7, h8, h9, h10, h11, h12, h13⟩)
def lenV (v : Value) : Nat := match v with
  | .slice _ n _ => n
  | _ => 0
section
variable {w0 w w' : World} {S0 : Nat → Prop} {X N : List Res} {a : Da} {n sz : Nat} {bp : Nat → Nat} {D D' : Dv} {k : Nat} {ids : List Int}
theorem stD_o (H : St w0 S0 w (DvL a n sz bp D ++ X)) (hS : StS sz ids D D') (hn : ids.length ≤ 64) :
    Calls Tryz.prog 13 #[ptrV a.d] w fun e w' => ∃ B d, e = .returned (.slice B ids.length d) ∧ St w0 S0 w' (DvL a n sz bp D' ++ (X ++ [LisR 3 1 (.slice B ids.length d) ids.length (iv ids)])) := by
  obtain ⟨iI, hiI, hzI, hsI, hbI⟩ := info3w YtdjhpdacglojaaaGreatiI
  have S1 := Lib.hid (show St w0 S0 w (DvL a n sz bp D ++ (X ++ [LisR 3 1 (.slice none 0 0) 0 (iv [])])) by rw [← List.append_assoc]; exact H.lis_nil _ _)
  have HS := Lib.hid hS
  have HN := Lib.hid hn
  clear H hS hn
  go_enter Tryz.func13, Tryz.ntmps13
  go_wp2_with fail
  go_loopw [3, 4, 5, 6, 7, 8] (fun x3 _ _ _ _ _ wr => ∃ (B : Option Addr) (d : Nat) (pre post : List Int) (E : Dv), x3 = .slice B pre.length d ∧ ids = pre ++ post ∧ StS sz post E D' ∧ St w0 S0 wr (DvL a n sz bp E ++ (X ++ [LisR 3 1 (.slice B pre.length d) pre.length (iv pre)]))) (fun x3 _ _ _ _ _ _ => ids.length - lenV x3)
  case atStart => exact ⟨none, 0, [], ids, D, rfl, rfl, HS.out, S1.out⟩
  case round =>
  clear S1 HS
  obtain ⟨B, d, pre, post, E, rfl, hids, hst, sr⟩ := hrel
  have hg : E.g.ok sz := by rcases hst.inv with h | h | ⟨ids', x, q', k, g', h⟩ <;> first | exact h.2.2.1 | exact h.2.1
  obtain ⟨NL, hNL⟩ : ∃ NL, [LisR 3 1 (.slice B pre.length d) pre.length (iv pre)] = NL := ⟨_, rfl⟩
  rw [hNL] at sr
  have HNL := Lib.hid hNL
  have HID := Lib.hid hids
  have HST := Lib.hid hst
  have K0 := Lib.hid (inRing_o sr.drew hg)
  have q4 := (dv_cells sr).seven.2.2.2.2.1
  have HSR := Lib.hid sr
  have HG := Lib.hid hg
  obtain ⟨bb, hbb⟩ : ∃ bb, decide (((E.g.put : Int) - E.g.reaped) < (sz : Int)) = bb := ⟨_, rfl⟩
  have HBB := Lib.hid hbb
  clear hNL hids hst sr hg hbb
  go_upto_region 2 with (fail)
  go_cut [15] (fun x15 wx => x15 = .bool bb ∧ St w0 S0 wx (DvL a n sz bp E ++ (X ++ NL)))
  case first =>
    go_wp2_with fail
    go_region_held3 (fun w' => w'.cell? ⟨a.d, 4, none⟩ = some (.int .i64 (sz : Int))) (go_keep)
      (first
        | (go_at_call 54; refine K0.out.mono ?_; rintro e w5 ⟨rfl, s5⟩; have S5 := Lib.hid s5; have q5 := (dv_cells s5).seven.2.2.2.2.1; clear s5))
    go_wp2_with fail
    go_meet
    exact ⟨by rw [← HBB.out], S5.out⟩
  case rest =>
  obtain ⟨rfl, s2⟩ := hcut
  have S2 := Lib.hid s2
  clear s2 HSR K0 q4
  rcases HST.out.inv with ⟨rfl, hE, -, hput⟩ | ⟨rfl, hE, -, hput, hqo, x, f, htk, hf⟩ | ⟨ids', x, q', k, g', rfl, -, hput, hqo, htk, hop, hkn, hri, hpp, hg1, hfit, hm, hwf, hnext⟩
  · obtain rfl : bb = false := HBB.out.symm.trans (decide_eq_false (by omega))
    have FIN := Lib.hid (show ids.length = pre.length ∧ St w0 S0 wc (DvL a n sz bp D' ++ (X ++ [LisR 3 1 (.slice B pre.length d) pre.length (iv ids)])) by
      have e : ids = pre := by rw [HID.out]; simp
      subst e
      exact ⟨rfl, by rw [hE, HNL.out]; exact S2.out⟩)
    clear hE hput S2
    go_wp2_with fail
    go_ret
    exact ⟨B, d, by rw [FIN.out.1]; rfl, by rw [FIN.out.1]; exact FIN.out.2⟩
  · obtain rfl : bb = true := HBB.out.symm.trans (decide_eq_true (by omega))
    have y2 : (f != 0) = true := by simp [hf]
    have K1 := Lib.hid (od.Take_o S2.out 2 rfl hqo htk)
    have d1 := (dv_cells S2.out).seven.2.1
    have HE := Lib.hid (show ∀ V, St w0 S0 V (DvL a n sz bp E ++ (X ++ NL)) → ids.length = pre.length ∧ St w0 S0 V (DvL a n sz bp D' ++ (X ++ [LisR 3 1 (.slice B pre.length d) pre.length (iv ids)])) from fun V s => by
      have e : ids = pre := by rw [HID.out]; simp
      subst e
      exact ⟨rfl, by rw [hE, HNL.out]; exact s⟩)
    clear hE hput hqo htk hf S2
    go_wp2_with fail
    refine K1.out.mono ?_
    rintro e w5 ⟨rfl, s5⟩
    have s5 : St w0 S0 w5 (DvL a n sz bp E ++ (X ++ NL)) := s5
    have FIN := Lib.hid (HE.out _ (s5.alloc (.cells #[.int .i64 x.id, .int .u64 x.dead, .int .i64 x.track] 114)))
    clear s5 K1 d1 HE
    go_wp2_with fail
    go_ret
    exact ⟨B, d, by rw [FIN.out.1]; rfl, by rw [FIN.out.1]; exact FIN.out.2⟩
  · obtain rfl : bb = true := HBB.out.symm.trans (decide_eq_true (by omega))
    obtain ⟨xi, xd, xt⟩ := x
    dsimp only at hop hri hwf
    have K1 := Lib.hid (od.Take_o S2.out 2 rfl hqo htk)
    have d1 := (dv_cells S2.out).seven.2.1
    have HOP := Lib.hid hop
    have HRI := Lib.hid hri
    have HPP := Lib.hid hpp
    have HG1 := Lib.hid hg1
    have HFIT := Lib.hid hfit
    have HM := Lib.hid hm
    have HWF := Lib.hid hwf
    have HNX := Lib.hid hnext
    clear hput hqo htk S2 hop hri hpp hg1 hfit hm hwf hnext HST
    dsimp only at K1
    go_wp2_with fail
    refine K1.out.mono ?_
    rintro e w5 ⟨rfl, s5⟩
    have s5 : St w0 S0 w5 (DvL a n sz bp { E with q := q' } ++ (X ++ NL)) := s5
    have s6 : St w0 S0 (w5.alloc (.cells #[.int .i64 xi, .int .u64 xd, .int .i64 xt] 114)) (DvL a n sz bp { E with q := q' } ++ (X ++ NL ++ [BlkR w5.heap.size 114 #[.int .i64 xi, .int .u64 xd, .int .i64 xt]])) := by
      have h := s5.box 114 #[.int .i64 xi, .int .u64 xd, .int .i64 xt]
      rw [List.append_assoc] at h; exact h
    obtain ⟨wb, hwb⟩ : ∃ wb, w5.heap.size = wb := ⟨_, rfl⟩
    rw [hwb] at s6
    have c5 := (dv_cells s6).seven.2.2.2.2.2.1
    have c0 := ((dv_back (N := [BlkR wb 114 #[.int .i64 xi, .int .u64 xd, .int .i64 xt]]) s6).blk 0 rfl).three.1
    have LK := (s6.drew.mapi 5 rfl).look1 (t := 106) (e := 117) Tryz.underlying3 Tryz.underlying106 (zeroP _) HWF.out
    rw [show (reqM bp ({ E with q := q' } : Dv).opn xi).getD (.pointer none) = ptrV (bp k) by unfold reqM; show ((E.opn xi).map _).getD _ = _; rw [HOP.out]; rfl] at LK
    have S6 := Lib.hid (show St w0 S0 _ (DvL a n sz bp { E with q := q' } ++ (X ++ NL)) from (dv_back (N := [BlkR wb 114 #[.int .i64 xi, .int .u64 xd, .int .i64 xt]]) s6).drop 0 (by simp))
    clear s5 K1 d1 s6 hwb
    go_upto_region 5 with (fail)
    go_cut [6] (fun x6 wx => x6 = ptrV (bp k) ∧ St w0 S0 wx (DvL a n sz bp { E with q := q' } ++ (X ++ NL)))
    case first =>
      go_wp2_with fail
      go_region
      all_goals
        go_wp2_with fail
        go_meet
        exact ⟨rfl, S6.out.drew⟩
    case rest =>
    obtain ⟨rfl, s7⟩ := hcut
    clear S6 LK c5 c0
    obtain ⟨op, hop⟩ : ∃ op, (E.rq k).op = op := ⟨_, rfl⟩
    have hri : (E.rq k).id = xi := HRI.out
    obtain ⟨sl, hsl⟩ : ∃ sl, (E.rq k).slot = sl := ⟨_, rfl⟩
    obtain ⟨ge, hge⟩ : ∃ ge, (E.rq k).gen = ge := ⟨_, rfl⟩
    obtain ⟨fr, hfr⟩ : ∃ fr, (E.rq k).frm = fr := ⟨_, rfl⟩
    obtain ⟨ln, hln⟩ : ∃ ln, (E.rq k).len = ln := ⟨_, rfl⟩
    have PK := Lib.hid (ri.Put_o s7.drew 3 rfl HG.out (E.rq k).dsc HFIT.out _ 0 HPP.out HM.out)
    unfold ri.Dsc.v Rq.dsc at PK
    dsimp only at PK
    have CE := Lib.hid (show ∀ (V : World) (g1 : ri.RSt), St w0 S0 V ((DvL a n sz bp { E with q := q' } ++ (X ++ NL)).set 3 (ri.RingR a.rb sz g1)) → V.cell? ⟨a.d, 2, none⟩ = some (ptrV a.rb) ∧ V.cell? ⟨bp k, 1, none⟩ = some (.int .i64 op) ∧ V.cell? ⟨bp k, 0, none⟩ = some (.int .i64 xi) ∧ V.cell? ⟨bp k, 4, none⟩ = some (.int .i64 sl) ∧ V.cell? ⟨bp k, 5, none⟩ = some (.int .u64 ge) ∧ V.cell? ⟨bp k, 6, none⟩ = some (.int .i64 fr) ∧ V.cell? ⟨bp k, 7, none⟩ = some (.int .i64 ln) from fun V g1 s => by
      have b : Blk V (bp k) 119 (E.rq k).cells := s.many 7 rfl hkn
      have b0 : Blk V a.d 108 (devV a sz) := s.blk 0 rfl
      rw [← hop, ← hri, ← hsl, ← hge, ← hfr, ← hln]
      exact ⟨b0.seven.2.2.1, b.cell 1, b.cell 0, b.cell 4, b.cell 5, b.cell 6, b.cell 7⟩)
    rw [hop, hri, hsl, hge, hfr, hln] at PK
    have qq := CE.out _ _ (show St w0 S0 _ ((DvL a n sz bp { E with q := q' } ++ (X ++ NL)).set 3 (ri.RingR a.rb sz E.g)) from s7)
    obtain ⟨y0, y1, y2, y3, y4, y5, y6⟩ := qq
    have qq := And.intro y0 (And.intro y1 (And.intro y2 (And.intro y3 (And.intro y4 (And.intro y5 y6)))))
    clear s7 hop hri hsl hge hfr hln
    go_upto_region 6 with (fail)
    go_cut [7] (fun x7 wx => x7 = .int .i64 (E.g.put : Int) ∧ St w0 S0 wx ((DvL a n sz bp { E with q := q' } ++ (X ++ NL)).set 3 (ri.RingR a.rb sz g')))
    case first =>
      go_wp2_with fail
      go_region_held3 (fun w' => w'.cell? ⟨a.d, 2, none⟩ = some (ptrV a.rb) ∧ w'.cell? ⟨bp k, 1, none⟩ = some (.int .i64 op) ∧ w'.cell? ⟨bp k, 0, none⟩ = some (.int .i64 xi) ∧ w'.cell? ⟨bp k, 4, none⟩ = some (.int .i64 sl) ∧ w'.cell? ⟨bp k, 5, none⟩ = some (.int .u64 ge) ∧ w'.cell? ⟨bp k, 6, none⟩ = some (.int .i64 fr) ∧ w'.cell? ⟨bp k, 7, none⟩ = some (.int .i64 ln)) (go_keep)
        (first
          | (go_at_call 56; refine PK.out.mono ?_; rintro e w8 ⟨rfl, s8⟩; have S8 := Lib.hid s8; have q8 := CE.out _ _ s8; clear s8))
      go_wp2_with fail
      go_meet
      exact ⟨rfl, S8.out⟩
    case rest =>
    obtain ⟨rfl, s9⟩ := hcut
    clear PK qq y0 y1 y2 y3 y4 y5 y6
    have c6 := (show Blk wc a.d 108 (devV a sz) from s9.blk 0 rfl).seven.2.2.2.2.2.2
    have MP := Lib.hid (s9.mapi 6 rfl)
    have TURN := Lib.hid (show ∀ w4, MapI w4 Tryz.prog 3 a.mp (E.g.put + 1) (updI (reqM bp E.pst) (E.g.put : Int) (some (ptrV (bp k)))) → wc.grownBy w4 (some a.mp) → St w0 S0 w4 (DvL a n sz bp (E.stD k q' g') ++ (X ++ NL)) from fun w4 hm4 hg4 => by
      have h := s9.map_turn 6 rfl hm4 hg4
      have e := reqM_upd bp E.pst (E.g.put : Int) (some k)
      rw [Option.map_some] at e
      rw [e] at h
      unfold Dv.stD
      unfold DvL at h ⊢
      dsimp only at h ⊢
      rw [HG1.out]
      exact h)
    have HIS := Lib.hid (show ∀ V, St w0 S0 V (DvL a n sz bp (E.stD k q' g') ++ (X ++ NL)) → V.cell? ⟨bp k, 0, none⟩ = some (.int .i64 xi) from fun V s => by
      have b : Blk V (bp k) 119 (E.rq k).cells := dv_req (D := E.stD k q' g') s hkn
      rw [← HRI.out]; exact b.cell 0)
    have PU := Lib.hid (show wfI (E.g.put : Int) ∧ E.g.put < maxLen from ⟨wf_small (by omega) (by have := HM.out; omega), by have := HM.out; unfold maxLen; omega⟩)
    clear s9
    have PUT := Lib.hid (show ∀ (V V' : World) (B' : Option Addr) (d' : Nat) (E' : Dv), St w0 S0 V (DvL a n sz bp E' ++ (X ++ NL)) → Lis V' 3 1 (.slice B' (pre.length + 1) d') (pre.length + 1) (iv pre ++ [.int .i64 xi]) → V.grownBy V' (Value.slice B pre.length d).ownBlock → ((Value.slice B' (pre.length + 1) d').ownBlock = (Value.slice B pre.length d).ownBlock ∨ ∃ g, (Value.slice B' (pre.length + 1) d').ownBlock = some g ∧ V.heap.size ≤ g) → St w0 S0 V' (DvL a n sz bp E' ++ (X ++ [LisR 3 1 (.slice B' (pre ++ [xi]).length d') (pre ++ [xi]).length (iv (pre ++ [xi]))])) from fun V V' B' d' E' s hl hg hat => by
      have h := dv_back s
      rw [← HNL.out] at h
      have h := h.lis_put 0 rfl hl hg hat
      have h := dv_front (N := [LisR 3 1 (.slice B' (pre.length + 1) d') (pre.length + 1) (iv pre ++ [.int .i64 xi])]) h
      rw [List.length_append, iv_app]
      exact h)
    have LIS := Lib.hid (show ∀ (V : World) (E' : Dv), St w0 S0 V (DvL a n sz bp E' ++ (X ++ NL)) → Lis V 3 1 (.slice B pre.length d) pre.length (iv pre) from fun V E' s => by
      have h := dv_back s
      rw [← HNL.out] at h
      exact h.lis 0 rfl)
    have HLN := Lib.hid (show pre.length + 1 ≤ 64 by have h := HN.out; rw [HID.out, List.length_append, List.length_cons] at h; omega)
    go_wp2_with (first
      | (at_mapUpdate; refine wpList_mapI_put rfl _ _ _ 106 rfl 3 117 Tryz.underlying3 Tryz.underlying106 a.mp E.g.put (reqM bp E.pst) rfl MP.out PU.out.2 (E.g.put : Int) PU.out.1 (ptrV (bp k)) rfl rfl ?_; intro w3 hm3 hg3; have t3 := TURN.out w3 hm3 hg3; have c0 := HIS.out _ t3; have t4 := t3.alloc (.cells #[.int .i64 xi] 3); have HL7 := Lib.hid (LIS.out _ _ t4); have RB := Lib.hid (rds_box w3 3 (.int .i64 xi)); have T4 := Lib.hid t4; clear hm3 hg3 t3 t4)
      | (at_builtin; refine wpList_lis rfl (.tmp 76) (.tmp 82) 35 rfl 3 iI (.int .i64 0) 1 8 Tryz.underlying35 hiI hzI hsI hbI rfl (by decide) _ _ _ rfl HL7.out _ 1 1 [.int .i64 xi] rfl RB.out (by simp [Value.oneCell']) (by have := HLN.out; unfold maxLen; omega) (by have := HLN.out; omega) ?_; intro B' d' w8 hl hg hat; have T8 := Lib.hid (PUT.out _ _ _ _ _ T4.out hl hg hat); clear hl hg hat)
      | fail)
    go_roundw
    case rel => exact ⟨B', d', pre ++ [xi], ids', E.stD k q' g', by rw [List.length_append]; rfl, by rw [HID.out]; simp, HNX.out, T8.out⟩
    case measure => have h := HN.out; rw [HID.out, List.length_append, List.length_cons] at h; rw [HID.out]; simp [lenV]; omega
end
end
end Go.Proofs.YtdjhpdacglojaaaGreat
