/- Layer 13: a raise of one line. -/
import Derived.Test.YtaoioejgealciaaIrqD
import Derived.Test.YtaoioejgealciaaFill
import Derived.BigQuiet
import Derived.RegionTactic
import Derived.Deep.RegionHeld3
namespace Go.Proofs.Ytaoioejgealciaa
open Go.RowKit
set_option linter.unusedVariables false
set_option maxRecDepth 100000
set_option maxHeartbeats 2000000
theorem gathered_eq {l : Ln} {t R : Int} (h : l.ok t R) (hN : l.N = t) (hc : l.cur t) (hl : t < 4611686018427387904) :
    ∃ n ws', RaiseR l.C l.H l.N l.ws t n 0 t ws' ∧ l.gathered t = { l with N := t, ws := ws', held := l.held + n } ∧ 0 ≤ n ∧ l.held + n ≤ R + 1 := by
  have hs := h.sum
  have hp := h.p0
  have G : GoR l.H l.N l.ws t 0 0 t l.ws := Or.inr (Or.inr (Or.inr ⟨hl, by omega, hc, rfl, rfl, rfl, rfl⟩))
  by_cases hd : l.C ≤ (l.ws.length : Int) + 1 ∨ l.H = 0
  · exact ⟨0 + (l.ws.length + 1), [], ⟨0, 0, t, l.ws, G, Or.inr (Or.inl ⟨rfl, rfl, rfl, hd, rfl, rfl⟩)⟩, by unfold Ln.gathered; rw [if_pos hd, Int.zero_add], by omega, by omega⟩
  · exact ⟨0, l.ws ++ [t], ⟨0, 0, t, l.ws, G, Or.inr (Or.inr ⟨rfl, rfl, rfl, hd, rfl, rfl⟩)⟩, by unfold Ln.gathered; rw [if_neg hd, Int.add_zero], by omega, by omega⟩
section
variable {w0 w w1 w' : World} {S0 S : Nat → Prop} {L X : List Res} {c n m i : Nat} {now : Int} {ls : Nat → Ln} {gb bb : Nat → Nat}
theorem il_len : (IL c n m now ls gb bb X).length = 1 + m + m + X.length := by unfold IL; simp; omega
/-- It has a gatherer anew. -/
theorem il_new {b : Nat} (hm : m ≤ 16) (hi : i < m) (h : St w0 S0 w1 (IL c n m now ls gb bb X ++ [GatR b (ls i).C (ls i).H 0 []])) :
    St w0 S0 (w1.setCell ⟨c, i * 13 + 6, none⟩ (.pointer (some ⟨b, 0, none⟩))) (IL c n m now (updL ls i { ls i with N := 0, ws := [] }) (updL gb i b) bb X) := by
  have h1 := h.place (q := 1 + i) (by rw [il_len]; omega)
  have e0 : ((IL c n m now ls gb bb X).set (1 + i) (GatR b (ls i).C (ls i).H 0 []))[0]? = some (ArrR c 58 210 (cv n m now ls gb bb)) := by rw [List.getElem?_set_ne (by omega)]; exact il_0
  have h2 := h1.arr_set 0 e0 (k := i * 13 + 6) (by omega) (.pointer (some ⟨b, 0, none⟩))
  rw [List.set_comm _ _ (by omega)] at h2
  have hB : (((IL c n m now ls gb bb X).set 0 (ArrR c 58 210 (fun j => if j = i * 13 + 6 then .pointer (some ⟨b, 0, none⟩) else cv n m now ls gb bb j))).set (1 + i) (GatR b (ls i).C (ls i).H 0 []))[1 + m + i]? = some (BlkR (bb i) 75 (bk { ls i with N := 0, ws := [] })) := by
    rw [List.getElem?_set_ne (by omega), List.getElem?_set_ne (by omega)]; exact il_b hi
  rw [← set_same hB] at h2
  have h3 := il_fin (l' := { ls i with N := 0, ws := [] }) hi h2 (cv_set (n := n) (now := now) (ls := ls) hi (by omega) (show 6 < 13 by decide) rfl (lcg6 (ls i) (gb i) b (bb i) 0 []))
  rw [updL_self] at h3
  exact h3
theorem raise_o (H : St w0 S0 w (IL c n m now ls gb bb X)) (hm : m ≤ 16) (hi : i < m) {t R : Int} (hk : (ls i).ok t R) (hN : (ls i).N = t) (hc : (ls i).cur t) (h0 : 0 ≤ t) (hl : t < 4611686018427387904) (hR : R + 1 ≤ 1000000000000) :
    Calls Try.prog 26 #[.pointer (some ⟨c, i * 13, none⟩), .int .u64 t] w fun e w' => e = .returned (.bool ((ls i).raise t).2) ∧ ∃ gb', St w0 S0 w' (IL c n m now (updL ls i ((ls i).raise t).1) gb' bb X) := by
  obtain ⟨l, hli⟩ : ∃ l, ls i = l := ⟨_, rfl⟩
  have HLI := Lib.hid hli
  have c10 : w.cell? ⟨c, i * 13 + 10, none⟩ = some (.bool (ls i).masked) := il_at H hm hi (by decide)
  have c4 : w.drew.cell? ⟨c, i * 13 + 4, none⟩ = some (.int .i64 (ls i).St) := il_at H.drew hm hi (f := 4) (by decide)
  have CC := Lib.hid (countIn_o H.drew hm hi hk h0 hl)
  have hco := Ln.count_ok hk h0 hR
  have HCO := Lib.hid hco
  rw [hli] at hk hN hc c10 c4 CC hco HCO ⊢
  have hge := gathered_eq hco (show (l.count t).N = t from hN) hc hl
  obtain ⟨ng, wg, hG, he, hn0, hnR⟩ := hge
  have hgo := Ln.gathered_ok hco (show l.held + l.pends + l.ws.length ≤ R from hk.sum) h0 hl
  have hbig := hco.big
  have hh := hco.h0
  have hr := hco.r0
  have hrs := hco.rs
  have hst := hk.may.2.2.1
  obtain ⟨mk, hmk⟩ : ∃ mk, l.masked = mk := ⟨_, rfl⟩
  rw [hmk] at c10
  cases mk with
  | true =>
    have E := Lib.hid (show l.raise t = (l, false) by unfold Ln.raise; rw [if_pos hmk])
    have HH := Lib.hid H
    clear H hk hN hc c4 CC hco HCO hG he hn0 hnR hgo hbig hh hr hrs hst hmk hli hR
    go_enter Try.func26, Try.ntmps26
    go_wp2_with fail
    go_ret
    exact ⟨by rw [E.out]; rfl, gb, by rw [E.out]; have h := HH.out; rw [← HLI.out]; show St _ _ _ (IL _ _ _ _ (updL ls i (ls i)) _ _ _); rw [updL_self]; exact h⟩
  | false =>
    obtain ⟨st, hste⟩ : ∃ st, l.St = st := ⟨_, rfl⟩
    obtain ⟨rc, hrc⟩ : ∃ rc, (l.count t).raises = rc := ⟨_, rfl⟩
    rw [hste] at c4 hst
    rw [hrc] at CC hr hrs
    have HST := Lib.hid (And.intro hmk (And.intro hste hrc))
    have HG := Lib.hid hG
    have HGE := Lib.hid he
    have HGO := Lib.hid hgo
    obtain ⟨hd, hhd⟩ : ∃ hd, (l.count t).held = hd := ⟨_, rfl⟩
    have HHD := Lib.hid hhd
    rw [hhd] at hh hnR
    by_cases hs : st < rc
    · have E := Lib.hid (show l.raise t = ({ l.count t with masked := true, N := 0, ws := [] }, true) by unfold Ln.raise; rw [if_neg (by rw [hmk]; decide), if_pos (by rw [hste, hrc]; exact hs)])
      have MAY := Lib.hid hk.may.1
      have d1 : decide (st < rc) = true := decide_eq_true hs
      clear H hk hN hc hco HCO hG he hn0 hnR hgo hbig hh hmk hste hrc hhd hli hR hs HG HGE HGO
      go_enter Try.func26, Try.ntmps26
      go_wp2_with fail
      go_region_held3 (fun W => W.cell? ⟨c, i * 13 + 4, none⟩ = some (.int .i64 st)) (go_keep)
        (first
          | (go_at_call 36; refine CC.out.mono ?_; rintro r' w6 ⟨rfl, s6⟩; have q6 : w6.cell? ⟨c, i * 13 + 4, none⟩ = some (.int .i64 st) := by { have h := il_at s6 hm hi (f := 4) (by decide); rw [updL_same] at h; rw [← HST.out.2.1]; exact h }; have f6 := il_frozen s6 (i * 13 + 10); have a6 := il_at s6 hm hi (f := 10) (by decide); have k0 : w6.cell? ⟨c, i * 13, none⟩ = some (.int .i64 l.C) := by { have h := il_at s6 hm hi (f := 0) (by decide); rw [updL_same] at h; exact h }; have k1 : w6.cell? ⟨c, i * 13 + 1, none⟩ = some (.int .u64 l.H) := by { have h := il_at s6 hm hi (f := 1) (by decide); rw [updL_same] at h; exact h }; have u6 := il_put (l' := { l.count t with masked := true }) hm hi (f := 10) (by decide) s6 (.bool true) rfl (by rw [updL_same]; exact lc10 (l.count t) _ _ _) (by rw [updL_same]; exact ⟨rfl, rfl, rfl, rfl⟩) (by rw [updL_same]; rfl); clear s6))
      rw [updL_twice] at u6
      have p0 : (w6.setCell ⟨c, i * 13 + 10, none⟩ (.bool true)).drew.cell? ⟨c, i * 13 + 0, none⟩ = some (.int .i64 l.C) := by have h := il_at u6.drew hm hi (f := 0) (by decide); rw [updL_same] at h; exact h
      have p1 : (w6.setCell ⟨c, i * 13 + 10, none⟩ (.bool true)).drew.cell? ⟨c, i * 13 + 1, none⟩ = some (.int .u64 l.H) := by have h := il_at u6.drew hm hi (f := 1) (by decide); rw [updL_same] at h; exact h
      rw [Nat.add_zero] at p0
      have NW := Lib.hid (gat_new u6.drew MAY.out)
      clear u6 CC c10 c4
      go_wp2_with fail
      go_region_law (first
          | (go_simp; refine NW.out.mono ?_; rintro r' w7 ⟨b7, rfl, s7⟩; have f7 := s7.arr_frozen 0 rfl (i * 13 + 6); have a7 := s7.arr_cell 0 rfl (k := i * 13 + 6) (by omega);  have S7 := Lib.hid s7; clear s7))
      all_goals
        go_wp2_with fail
        go_ret
        refine ⟨by rw [E.out]; rfl, updL gb i b7, ?_⟩
        have h := il_new (ls := updL ls i { l.count t with masked := true }) (b := b7) hm hi (by rw [updL_same]; exact S7.out)
        rw [updL_same, updL_twice] at h
        rw [E.out]; exact h
    · have E := Lib.hid (show l.raise t = ((({ l.count t with N := t, ws := wg, held := (l.count t).held + ng } : Ln)).deliver t, false) by unfold Ln.raise; rw [if_neg (by rw [hmk]; decide), if_neg (by rw [hste, hrc]; exact hs), he])
      have d1 : decide (st < rc) = false := decide_eq_false hs
      clear H hk hN hc hco hG he hgo hmk hste hrc hhd hli hs
      go_enter Try.func26, Try.ntmps26
      go_wp2_with fail
      go_region_held3 (fun W => W.cell? ⟨c, i * 13 + 4, none⟩ = some (.int .i64 st)) (go_keep)
        (first
          | (go_at_call 36; refine CC.out.mono ?_; rintro r' w6 ⟨rfl, s6⟩; have q6 : w6.cell? ⟨c, i * 13 + 4, none⟩ = some (.int .i64 st) := by { have h := il_at s6 hm hi (f := 4) (by decide); rw [updL_same] at h; rw [← HST.out.2.1]; exact h }; have c6 : w6.cell? ⟨c, i * 13 + 6, none⟩ = some (.pointer (some ⟨gb i, 0, none⟩)) := il_at s6 hm hi (by decide); have GG := Lib.hid (gat_raise s6 (1 + i) (il_g hi) (by { rw [updL_same]; exact HCO.out.g }) h0 (by { rw [updL_same]; exact HG.out })); clear s6))
      go_wp2_with fail
      refine GG.out.mono ?_
      rintro e w7 ⟨rfl, s7⟩
      have u7 := il_gat (l' := { l.count t with N := t, ws := wg }) hm hi (by rw [updL_same] at s7; exact s7) (fun q hq => by rw [updL_same]; rfl) (by rw [updL_same]; rfl)
      rw [updL_twice] at u7
      have a8 : w7.cell? ⟨c, i * 13 + 8, none⟩ = some (.int .i64 hd) := by have h := il_at u7 hm hi (f := 8) (by decide); rw [updL_same] at h; rw [← HHD.out]; exact h
      have f8 := il_frozen u7 (i * 13 + 8)
      have u8 := il_put (l' := { l.count t with N := t, ws := wg, held := (l.count t).held + ng }) hm hi (f := 8) (by decide) u7 (.int .i64 (hd + ng)) (by rw [← HHD.out]; rfl) (by rw [updL_same]; exact lc8 { l.count t with N := t, ws := wg } _ _ _) (by rw [updL_same]; exact ⟨rfl, rfl, rfl, rfl⟩) (by rw [updL_same]; rfl)
      rw [updL_twice] at u8
      have D := deliver_o u8 hm hi (t := t) (t0 := t) (R := R + 1) (by rw [updL_same, ← HGE.out]; exact HGO.out) (Int.le_refl _) hl
      rw [updL_same, updL_twice] at D
      have DD := Lib.hid D
      clear s7 u7 u8 D GG c6
      go_wp2_with fail
      refine DD.out.mono ?_
      rintro e w9 ⟨rfl, s9⟩
      have S9 := Lib.hid s9
      clear s9 DD
      go_wp2_with fail
      go_ret
      exact ⟨by rw [E.out]; rfl, gb, by rw [E.out]; exact S9.out⟩
end
end Go.Proofs.Ytaoioejgealciaa
