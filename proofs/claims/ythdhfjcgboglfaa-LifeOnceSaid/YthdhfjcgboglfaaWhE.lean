/- Layer 4: a timer is laid, cancelled, set; a new wheel. -/
import Derived.Test.YthdhfjcgboglfaaWhD
namespace Go.Proofs.Ythdhfjcgboglfaa
open Go.RowKit
set_option linter.unusedVariables false
set_option maxRecDepth 100000
set_option maxHeartbeats 2000000
section
variable {w0 w w' : World} {S0 S : Nat → Prop} {L X : List Res} {m c bw s b : Nat} {now at' id : Int} {mb mb' : Nat → Option Nat} {W W' T T' : Int → Option Int}
theorem ea (s : Nat) : 2 + s / 64 * 64 + s % 64 = 2 + s := by omega
theorem mnil_yes (W : World) : (binOp .eql 79 (.map none) (.map none)).run Try.prog W = .ok (.bool true) W := by rfl
theorem mnil_no (b : Nat) (W : World) : (binOp .eql 79 (.map (some b)) (.map none)).run Try.prog W = .ok (.bool false) W := by rfl
theorem may_any (t : Int) (w : World) : Calls Try.prog 23 #[.int .u64 t] w fun e w' => e = .returned (.bool (decide (t < 4611686018427387904))) ∧ w = w' := by
  go_enter Try.func23, Try.ntmps23
  go_wp2_with fail
  go_ret
  exact ⟨by simp, rfl⟩
theorem lay_c (H : St w0 S0 w (WL 704 c bw now mb W T X)) (h0 : 0 ≤ now) (h1 : now < at') (h2 : at' < 4611686018427387904) (i0 : 0 ≤ id) (i1 : id < 1000) (hT : T id = none) :
    Calls Try.prog 35 #[.pointer (some ⟨c, 0, none⟩), .int .i64 id, .int .u64 at'] w fun e w' => e = .returned (.tuple #[]) ∧ ∃ mb', St w0 S0 w' (WL 704 c bw now mb' (updT W id (some at')) (updT T id (some at')) X) := by
  have SC := Lib.hid (spot_c H h0 h1 h2)
  have HT := Lib.hid hT
  clear H hT
  go_enter Try.func35, Try.ntmps35
  go_wp2_with fail
  refine SC.out.mono ?_
  rintro e w2 ⟨s, hs, hsp, rfl, s2⟩
  have HSP := Lib.hid hsp
  have cs := wl_cell s2 hs
  rw [← ea] at cs
  have q0 : (0 : Int) ≤ ((s / 64 : Nat) : Int) := by omega
  have q1 : ((s / 64 : Nat) : Int) < 11 := by omega
  have q2 : (0 : Int) ≤ ((s % 64 : Nat) : Int) := by omega
  have q3 : ((s % 64 : Nat) : Int) < 64 := by omega
  clear hsp SC
  cases hb : mb s with
  | none =>
    rw [hb] at cs
    obtain ⟨g, hg⟩ : ∃ g, w2.heap.size = g := ⟨_, rfl⟩
    have s3 := wl_fresh s2 hs rfl hb
    rw [hg, ← ea] at s3
    have f2 : (w2.alloc (.map #[] 0)).frozen? ⟨c, 2 + s / 64 * 64 + s % 64, none⟩ = false := (s2.alloc _).arr_frozen 0 wl_0 _
    have cs2 : (w2.alloc (.map #[] 0)).cell? ⟨c, 2 + s / 64 * 64 + s % 64, none⟩ = some (.map none) := by
      have := wl_cell (s2.alloc (.map #[] 0)) hs
      rw [← ea, hb] at this; exact this
    have cs3 := wl_cell s3 hs
    have cw3 := wl_when s3
    rw [ea] at cs3
    have MN := Lib.hid (wl_mapn s3 hs (b := g) (by unfold updN; rw [if_pos rfl]))
    have S3 := Lib.hid s3
    have yes := mnil_yes
    have hmm := @run_makeMap Try.prog
    have HG := Lib.hid (show updN mb s (some g) s = some g by unfold updN; rw [if_pos rfl])
    clear s2 s3 hb
    go_wp2_with (first
      | (at_mapUpdate; refine wpList_mapN_put rfl _ _ _ 79 rfl 3 22 Try.underlying3 Try.underlying79 g (MS T now s) rfl MN.out id i0 i1 (.int .u64 at') rfl rfl ?_; intro w3 hm3 hg3; have s3 := wl_put S3.out hs HG.out HSP.out HT.out hm3 hg3; have MW := Lib.hid (wl_whenn s3); have c3 := wl_when s3; have S4 := Lib.hid s3; clear hm3 hg3 s3 MN S3)
      | (at_mapUpdate; refine wpList_mapN_put rfl _ _ _ 79 rfl 3 22 Try.underlying3 Try.underlying79 bw (WV W) rfl MW.out id i0 i1 (.int .u64 at') rfl rfl ?_; intro w4 hm4 hg4; have S5 := Lib.hid (wl_when_turn (v := some at') S4.out hm4 hg4); clear hm4 hg4 S4)
      | fail)
    go_end0
    exact ⟨rfl, _, S5.out⟩
  | some b =>
    rw [hb] at cs
    have MN := Lib.hid (wl_mapn s2 hs hb)
    have S2 := Lib.hid s2
    have HB := Lib.hid hb
    have no := mnil_no b
    clear s2 hb
    go_wp2_with (first
      | (at_mapUpdate; refine wpList_mapN_put rfl _ _ _ 79 rfl 3 22 Try.underlying3 Try.underlying79 b (MS T now s) rfl MN.out id i0 i1 (.int .u64 at') rfl rfl ?_; intro w3 hm3 hg3; have s3 := wl_put S2.out hs HB.out HSP.out HT.out hm3 hg3; have MW := Lib.hid (wl_whenn s3); have c3 := wl_when s3; have S3 := Lib.hid s3; clear hm3 hg3 s3 MN S2)
      | (at_mapUpdate; refine wpList_mapN_put rfl _ _ _ 79 rfl 3 22 Try.underlying3 Try.underlying79 bw (WV W) rfl MW.out id i0 i1 (.int .u64 at') rfl rfl ?_; intro w4 hm4 hg4; have S4 := Lib.hid (wl_when_turn (v := some at') S3.out hm4 hg4); clear hm4 hg4 S3)
      | fail)
    go_end0
    exact ⟨rfl, _, S4.out⟩
theorem updT_twice (T : Int → Option Int) (i : Int) (u v : Option Int) : updT (updT T i u) i v = updT T i v := by
  funext j; unfold updT; by_cases e : j = i
  · rw [if_pos e, if_pos e]
  · rw [if_neg e, if_neg e, if_neg e]
theorem updT_none {T : Int → Option Int} {i : Int} (h : T i = none) : updT T i none = T := by
  funext j; unfold updT; by_cases e : j = i
  · rw [if_pos e, e, h]
  · rw [if_neg e]
theorem Cancel_c (H : St w0 S0 w (WL 704 c bw now mb T T X)) (ok : TOK now T) (hi : wfI id) :
    Calls Try.prog 34 #[.pointer (some ⟨c, 0, none⟩), .int .i64 id] w fun e w' => e = .returned (.int .i64 (if (T id).isSome = true then 0 else 6)) ∧ St w0 S0 w' (WL 704 c bw now mb (updT T id none) (updT T id none) X) := by
  have c1 := wl_when H
  have lk := when_look H hi
  cases hT : T id with
  | none =>
    rw [hT] at lk
    simp only [Option.getD_none, Option.isSome_none] at lk
    rw [updT_none hT]
    have HH := Lib.hid H
    clear H hT
    go_enter Try.func34, Try.ntmps34
    go_wp2_with fail
    go_ret
    exact ⟨rfl, HH.out⟩
  | some a =>
    rw [hT] at lk
    simp only [Option.getD_some, Option.isSome_some] at lk
    obtain ⟨i0, i1, a0, a1⟩ := ok.t id a hT
    have SC := Lib.hid (spot_c H ok.n0 a0 a1)
    have HT := Lib.hid hT
    clear H hT
    go_enter Try.func34, Try.ntmps34
    go_wp2_with fail
    refine SC.out.mono ?_
    rintro e w2 ⟨s, hs, hsp, rfl, s2⟩
    have HSP := Lib.hid hsp
    have cs := wl_cell s2 hs
    rw [← ea] at cs
    have q0 : (0 : Int) ≤ ((s / 64 : Nat) : Int) := by omega
    have q1 : ((s / 64 : Nat) : Int) < 11 := by omega
    have q2 : (0 : Int) ≤ ((s % 64 : Nat) : Int) := by omega
    have q3 : ((s % 64 : Nat) : Int) < 64 := by omega
    obtain ⟨b, hb⟩ : ∃ b, mb s = some b := by
      cases hb : mb s with
      | none => have := wl_empty s2 hs hb id; rw [MS_at hsp HT.out] at this; cases this
      | some b => exact ⟨b, rfl⟩
    rw [hb] at cs
    have MN := Lib.hid (wl_mapn s2 hs hb)
    have S2 := Lib.hid s2
    have HB := Lib.hid hb
    clear s2 hb hsp SC c1 lk
    go_wp2_with (first
      | (at_delete; refine wpList_mapN_del rfl _ _ 79 3 rfl 22 Try.underlying3 Try.underlying79 b (MS T now s) rfl MN.out id i0 i1 rfl ?_; intro w3 hm3 hg3; have s3 := wl_del S2.out hs HB.out HSP.out HT.out hm3 hg3; have MW := Lib.hid (wl_whenn s3); have c3 := wl_when s3; have S3 := Lib.hid s3; clear hm3 hg3 s3 MN S2)
      | (at_delete; refine wpList_mapN_del rfl _ _ 79 3 rfl 22 Try.underlying3 Try.underlying79 bw (WV T) rfl MW.out id i0 i1 rfl ?_; intro w4 hm4 hg4; have S4 := Lib.hid (wl_when_turn (v := none) S3.out hm4 hg4); clear hm4 hg4 S3)
      | fail)
    go_ret
    exact ⟨rfl, S4.out⟩
theorem TOK.del (ok : TOK now T) (i : Int) : TOK now (updT T i none) := ⟨ok.n0, ok.n1, fun j a h => by
  unfold updT at h
  by_cases e : j = i
  · rw [if_pos e] at h; cases h
  · rw [if_neg e] at h; exact ok.t j a h⟩
theorem TOK.put (ok : TOK now T) {i a : Int} (i0 : 0 ≤ i) (i1 : i < 1000) (h1 : now < a) (h2 : a < 4611686018427387904) : TOK now (updT T i (some a)) := ⟨ok.n0, ok.n1, fun j x h => by
  unfold updT at h
  by_cases e : j = i
  · rw [if_pos e] at h; injection h with h; subst h; rw [e]; exact ⟨i0, i1, h1, h2⟩
  · rw [if_neg e] at h; exact ok.t j x h⟩
/-- What a Set answers. -/
def setA (now id at' : Int) : Int := if id < 0 ∨ 1000 ≤ id ∨ at' ≤ now then 1 else if at' < 4611686018427387904 then 0 else 2
def setT (now : Int) (T : Int → Option Int) (id at' : Int) : Int → Option Int := if setA now id at' = 0 then updT T id (some at') else T
theorem setT_ok (ok : TOK now T) (id at' : Int) : TOK now (setT now T id at') := by
  unfold setT
  split
  · rename_i h
    unfold setA at h
    split at h
    · cases h
    · split at h
      · exact ok.put (by omega) (by omega) (by omega) (by omega)
      · cases h
  · exact ok
theorem Set_c (H : St w0 S0 w (WL 704 c bw now mb T T X)) (ok : TOK now T) (ha : 0 ≤ at') :
    Calls Try.prog 27 #[.pointer (some ⟨c, 0, none⟩), .int .i64 id, .int .u64 at'] w fun e w' => e = .returned (.int .i64 (setA now id at')) ∧ ∃ mb', St w0 S0 w' (WL 704 c bw now mb' (setT now T id at') (setT now T id at') X) := by
  have c0 := wl_now H
  by_cases h1 : id < 0
  · have d1 : decide (id < 0) = true := decide_eq_true h1
    have e1 : setA now id at' = 1 := by unfold setA; rw [if_pos (Or.inl h1)]
    have e2 : setT now T id at' = T := by unfold setT; rw [e1]; rfl
    rw [e1, e2]
    have HH := Lib.hid H
    clear H e1 e2 h1
    go_enter Try.func27, Try.ntmps27
    go_wp2_with fail
    go_ret
    exact ⟨rfl, _, HH.out⟩
  have d1 : decide (id < 0) = false := decide_eq_false h1
  by_cases h2 : 1000 ≤ id
  · have d2 : decide (1000 ≤ id) = true := decide_eq_true h2
    have e1 : setA now id at' = 1 := by unfold setA; rw [if_pos (Or.inr (Or.inl h2))]
    have e2 : setT now T id at' = T := by unfold setT; rw [e1]; rfl
    rw [e1, e2]
    have HH := Lib.hid H
    clear H e1 e2 h1 h2
    go_enter Try.func27, Try.ntmps27
    go_wp2_with fail
    go_ret
    exact ⟨rfl, _, HH.out⟩
  have d2 : decide (1000 ≤ id) = false := decide_eq_false h2
  by_cases h3 : at' ≤ now
  · have d3 : decide (at' ≤ now) = true := decide_eq_true h3
    have e1 : setA now id at' = 1 := by unfold setA; rw [if_pos (Or.inr (Or.inr h3))]
    have e2 : setT now T id at' = T := by unfold setT; rw [e1]; rfl
    rw [e1, e2]
    have HH := Lib.hid H
    clear H e1 e2 h1 h2 h3
    go_enter Try.func27, Try.ntmps27
    go_wp2_with fail
    go_ret
    exact ⟨rfl, _, HH.out⟩
  have d3 : decide (at' ≤ now) = false := decide_eq_false h3
  by_cases h4 : at' < 4611686018427387904
  · have d4 : decide (at' < 4611686018427387904) = true := decide_eq_true h4
    have e1 : setA now id at' = 0 := by unfold setA; rw [if_neg (by omega), if_pos h4]
    have e2 : setT now T id at' = updT (updT T id none) id (some at') := by unfold setT; rw [e1, updT_twice]; rfl
    rw [e1, e2]
    obtain ⟨ck, hck⟩ : ∃ ck : Int, (if (T id).isSome = true then (0 : Int) else 6) = ck := ⟨_, rfl⟩
    have cc := fun (w : World) (h : St w0 S0 w (WL 704 c bw now mb T T X)) => Cancel_c h ok (dom_wf (i := id) (by omega) (by omega))
    simp only [hck] at cc
    have CC := Lib.hid cc
    clear cc hck
    have HN := Lib.hid ok.n0
    have HH := Lib.hid H
    have MY := Lib.hid (fun w => may_any at' w)
    have L0 : 0 ≤ id := by omega
    have L1 : id < 1000 := by omega
    have L2 : now < at' := by omega
    clear H e1 e2 h1 h2 h3
    go_enter Try.func27, Try.ntmps27
    go_wp2_with fail
    refine (MY.out _).mono ?_
    rintro e w2 ⟨rfl, rfl⟩
    go_wp2_with fail
    refine (CC.out _ HH.out).mono ?_
    rintro e w3 ⟨rfl, s3⟩
    have S3 := Lib.hid s3
    clear s3
    go_wp2_with fail
    refine (lay_c S3.out HN.out L2 h4 L0 L1 (updT_same _ _ _)).mono ?_
    rintro e w4 ⟨rfl, mb4, s4⟩
    have S4 := Lib.hid s4
    clear s4
    go_wp2_with fail
    go_ret
    exact ⟨rfl, mb4, S4.out⟩
  · have d4 : decide (at' < 4611686018427387904) = false := decide_eq_false h4
    have e1 : setA now id at' = 2 := by unfold setA; rw [if_neg (by omega), if_neg h4]
    have e2 : setT now T id at' = T := by unfold setT; rw [e1]; rfl
    rw [e1, e2]
    have HH := Lib.hid H
    have MY := Lib.hid (fun w => may_any at' w)
    clear H e1 e2 h1 h2 h3 h4
    go_enter Try.func27, Try.ntmps27
    go_wp2_with fail
    refine (MY.out _).mono ?_
    rintro e w2 ⟨rfl, rfl⟩
    go_wp2_with fail
    go_ret
    exact ⟨rfl, _, HH.out⟩
end
end Go.Proofs.Ythdhfjcgboglfaa
