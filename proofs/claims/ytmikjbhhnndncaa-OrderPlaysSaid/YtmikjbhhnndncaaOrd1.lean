/- Layer 18: the document's queue: all, in order. Printed by bin/genOrd1.py. -/
import Derived.Test.YtmikjbhhnndncaaOrdK
import Derived.Test.YtmikjbhhnndncaaOrdO
namespace Go.Proofs.Ytmikjbhhnndncaa
open Go.RowKit
set_option linter.unusedVariables false
set_option maxRecDepth 100000
set_option maxHeartbeats 16000000
section
variable {w0 w w' : World} {S0 S : Nat → Prop} {N L : List Res} {r : Nat} {s s' : OSt}
theorem rAll_c (h : RQR r s w S) (hs : s.ok) : Calls Try.prog 24 #[.pointer (some ⟨r, 0, none⟩)] w (AllP s w None []) := by
  obtain ⟨iK, hiK, hzK, hsK, hbK⟩ := info3o Try.infoWant
  have hlen := hs.len
  obtain ⟨A, c, hh⟩ := h
  have s0 : St w S w (RQL r A c s) := St.start hh
  unfold AllP
  unfold RQL at s0
  clear hh hs
  obtain ⟨hd, hhd⟩ : ∃ hd, hd = s.head := ⟨_, rfl⟩
  obtain ⟨dn, hdn⟩ : ∃ dn, dn = (!s.up) := ⟨_, rfl⟩
  rw [← hhd, ← hdn] at s0
  clear hhd hdn
  generalize s.l = l at *
  obtain ⟨n, hn⟩ : ∃ n, l.length = n := ⟨_, rfl⟩
  rw [hn] at s0 hlen ⊢
  have S0' := Lib.hid s0
  have HN := Lib.hid hn
  have q0 := (s0.blk 0 rfl).three.1
  have K0 : St w None w [LisR 32 3 (.slice none 0 0) 0 (ovs [])] := (St.begin w).lis_nil 32 3
  have KK := Lib.hid K0
  clear s0 hn K0
  go_enter Try.func24, Try.ntmps24
  go_wp2_with fail
  go_loopw [3, 4] (fun o t wr => ∃ (k : Nat) (out : List Wt) (B : Option Addr) (cb : Nat), k ≤ n ∧ t = .int .i64 (k : Int) ∧ o = .slice B k cb ∧ out.Perm (l.take k) ∧ out.Pairwise (fun x y => ¬ lt3 y x) ∧ St w None wr [LisR 32 3 (.slice B k cb) k (ovs out)]) (fun _ t _ => n - (intOf t).toNat)
  case atStart => exact ⟨0, [], none, 0, by omega, rfl, rfl, by simp, List.Pairwise.nil, KK.out⟩
  case round =>
  clear KK q0
  obtain ⟨k, out, B, cb, hk, rfl, rfl, hperm, hsort, sr⟩ := hrel
  have q0 := ((S0'.out.stay sr.below).blk 0 rfl).three.1
  by_cases hkn : k < n
  case neg =>
    have t1 : decide ((k : Int) < (n : Int)) = false := decide_eq_false (by omega)
    have t1' : decide (k < n) = false := decide_eq_false hkn
    obtain rfl : k = n := by omega
    have HPERM := Lib.hid (show out.Perm l by rw [List.take_of_length_le (by rw [HN.out]; exact Nat.le_refl _)] at hperm; exact hperm)
    have HSORT := Lib.hid hsort
    have SR := Lib.hid sr
    clear hperm hsort sr
    go_wp2_with fail
    go_ret
    exact ⟨B, cb, out, rfl, HPERM.out, fun a b x y hab hx hy => by
      obtain ⟨ha, rfl⟩ := List.getElem?_eq_some_iff.1 hx
      obtain ⟨hb, rfl⟩ := List.getElem?_eq_some_iff.1 hy
      exact List.pairwise_iff_getElem.1 HSORT.out a b ha hb hab, SR.out⟩
  obtain ⟨x, hx⟩ : ∃ x, l[k]? = some x := ⟨l[k]'(by rw [HN.out]; exact hkn), List.getElem?_eq_getElem _⟩
  obtain ⟨b, off, rfl, -, -⟩ := want_at (S0'.out.lis 1 rfl) hx
  have CE := Lib.hid (show ∀ W, Below w.heap.size w W → W.cell? ⟨r, 0, none⟩ = some (.slice (some ⟨b, off, none⟩) n c) ∧ W.cell? ⟨b, off + k * 3, none⟩ = some (.int .i64 x.id) ∧ W.cell? ⟨b, off + k * 3 + 1, none⟩ = some (.int .u64 x.dead) ∧ W.cell? ⟨b, off + k * 3 + 2, none⟩ = some (.int .i64 x.track) from fun W hb => by
    have K := S0'.out.stay hb
    obtain ⟨b', off', he, -, m0, m1, m2⟩ := want_at (K.lis 1 rfl) hx
    injection he with he
    injection he with e1 e2
    subst e1 e2
    exact ⟨(K.blk 0 rfl).three.1, m0, m1, m2⟩)
  have HX := Lib.hid hx
  have HPERM := Lib.hid hperm
  have HSORT := Lib.hid hsort
  have hol : out.length = k := by rw [hperm.length_eq, List.length_take, HN.out]; omega
  have HOL := Lib.hid hol
  have t1 : decide ((k : Int) < (n : Int)) = true := decide_eq_true (by omega)
  have t1' : decide (k < n) = true := decide_eq_true hkn
  have v0 : (0 : Int) ≤ (k : Int) := by omega
  have v1 : (k : Int) < (n : Int) := by omega
  have SRK := Lib.hid sr
  clear hperm hsort hol hx sr
  go_wp2_with fail
  go_loopw [5] (fun t wx => ∃ j : Nat, j ≤ k ∧ t = .int .i64 (j : Int) ∧ (∀ (i : Nat) y, i < j → out[i]? = some y → lt3 y x) ∧ St w None wx [LisR 32 3 (.slice B k cb) k (ovs out)]) (fun t _ => k - (intOf t).toNat)
  case atStart => exact ⟨0, by omega, rfl, fun i y h => by omega, SRK.out⟩
  case round =>
  clear SRK q0
  obtain ⟨j, hj, rfl, hlt, sr⟩ := hrel
  have HLT := Lib.hid hlt
  have SR := Lib.hid sr
  have hw0 : 0 ≤ (j : Int) := by omega
  clear hlt
  obtain ⟨b5, hb5⟩ : ∃ b5, b5 = decide (∃ y, out[j]? = some y ∧ lt3 y x) := ⟨_, rfl⟩
  have HB5 := Lib.hid hb5
  clear hb5
  go_wp2_with fail
  go_cut [32] (fun v wx => v = .bool b5 ∧ St w None wx [LisR 32 3 (.slice B k cb) k (ovs out)])
  case first =>
    haveI : Nonempty (Within (fun W => Below wr.heap.size wr W)) := ⟨⟨_, Below.refl _ _⟩⟩
    have HBW := Lib.hid (show ∀ W, Below wr.heap.size wr W → Below w.heap.size w W from fun W hb => sr.below.trans (hb.mono sr.below.size))
    have f0 : ∀ u : Within (fun W => Below wr.heap.size wr W), u.w.cell? ⟨r, 0, none⟩ = some (.slice (some ⟨b, off, none⟩) n c) := fun u => (CE.out u.w (HBW.out u.w u.h)).1
    have f1 : ∀ u : Within (fun W => Below wr.heap.size wr W), u.w.cell? ⟨b, off + k * 3, none⟩ = some (.int .i64 x.id) := fun u => (CE.out u.w (HBW.out u.w u.h)).2.1
    have f2 : ∀ u : Within (fun W => Below wr.heap.size wr W), u.w.cell? ⟨b, off + k * 3 + 1, none⟩ = some (.int .u64 x.dead) := fun u => (CE.out u.w (HBW.out u.w u.h)).2.2.1
    have f3 : ∀ u : Within (fun W => Below wr.heap.size wr W), u.w.cell? ⟨b, off + k * 3 + 2, none⟩ = some (.int .i64 x.track) := fun u => (CE.out u.w (HBW.out u.w u.h)).2.2.2
    by_cases hjk : j < k
    · obtain ⟨y, hy⟩ : ∃ y, out[j]? = some y := ⟨out[j]'(by rw [HOL.out]; exact hjk), List.getElem?_eq_getElem _⟩
      obtain ⟨g, o, hB, -, -⟩ := want_at (sr.lis 0 rfl) hy
      have GC := Lib.hid (show ∀ u : Within (fun W => Below wr.heap.size wr W), u.w.cell? ⟨g, o + j * 3, none⟩ = some (.int .i64 y.id) ∧ u.w.cell? ⟨g, o + j * 3 + 1, none⟩ = some (.int .u64 y.dead) ∧ u.w.cell? ⟨g, o + j * 3 + 2, none⟩ = some (.int .i64 y.track) from fun u => by
        obtain ⟨b', off', he, -, m0, m1, m2⟩ := want_at ((SR.out.stay u.h).lis 0 rfl) hy
        rw [hB] at he
        injection he with he
        injection he with e1 e2
        subst e1 e2
        exact ⟨m0, m1, m2⟩)
      subst hB
      have g0 := fun u => (GC.out u).1
      have g1 := fun u => (GC.out u).2.1
      have g2 := fun u => (GC.out u).2.2
      have LC := Lib.hid (fun W => rless_c y x W (decide (lt3 y x)) rfl)
      have u1 : decide ((j : Int) < (k : Int)) = true := decide_eq_true (by omega)
      have u1' : decide (j < k) = true := decide_eq_true hjk
      have u2 : (j : Int) < (k : Int) := by omega
      obtain rfl : b5 = decide (lt3 y x) := by
        rw [HB5.out]; exact decide_eq_decide.2 ⟨fun ⟨y', h1, h2⟩ => by rw [hy] at h1; injection h1 with h1; rw [h1]; exact h2, fun h => ⟨y, hy, h⟩⟩
      unfold Wt.v at LC
      clear hy sr HB5 GC
      generalize decide (lt3 y x) = b5 at *
      refine wp_region_in (fun W => Below wr.heap.size wr W) (by kernel_rfl) (by kernel_rfl) (Below.refl _ _).drew ?_
      repeat (go_big_quiet_step ((first | (go_at_call 38; exact in_call (p := (fun W => Below wr.heap.size wr W)) ((LC.out _).mono fun e w' h => ⟨h.1, below_then (Within.h (p := (fun W => Below wr.heap.size wr W)) _) h.2⟩)))))
      refine wpQuiet_nil ?_
      rintro _ ⟨⟨wq, sq⟩, rfl⟩
      go_wp2_with fail
      go_meet
      exact ⟨rfl, SR.out.stay sq⟩
    · obtain rfl : b5 = false := by
        rw [HB5.out]; exact decide_eq_false fun ⟨y, h, _⟩ => by
          have := (List.getElem?_eq_some_iff.1 h).1
          have := HOL.out
          omega
      have u1 : decide ((j : Int) < (k : Int)) = false := decide_eq_false (by omega)
      have u1' : decide (j < k) = false := decide_eq_false hjk
      clear sr HB5
      refine wp_region_in (fun W => Below wr.heap.size wr W) (by kernel_rfl) (by kernel_rfl) (Below.refl _ _).drew ?_
      repeat (go_big_quiet_step (fail))
      refine wpQuiet_nil ?_
      rintro _ ⟨⟨wq, sq⟩, rfl⟩
      go_wp2_with fail
      go_meet
      exact ⟨rfl, SR.out.stay sq⟩
  case rest =>
  obtain ⟨rfl, sc⟩ := hcut
  by_cases hgo : ∃ y, out[j]? = some y ∧ lt3 y x
  · obtain rfl : b5 = true := by rw [HB5.out]; exact decide_eq_true hgo
    have HLT2 := Lib.hid (show j < k ∧ ∀ (i : Nat) y, i < j + 1 → out[i]? = some y → lt3 y x from by
      obtain ⟨y, h1, h2⟩ := hgo
      have := (List.getElem?_eq_some_iff.1 h1).1
      have := HOL.out
      refine ⟨by omega, fun i z hi hz => ?_⟩
      rcases Nat.lt_or_ge i j with h | h
      · exact HLT.out i z h hz
      · obtain rfl : i = j := by omega
        rw [h1] at hz; injection hz with hz; rw [← hz]; exact h2)
    have SC := Lib.hid sc
    have hjk := HLT2.out.1
    clear hgo sc HB5 sr
    go_wp2_with fail
    go_roundw
    case rel => exact ⟨j + 1, by omega, by go_num, HLT2.out.2, SC.out⟩
    case measure => simp [intOf]; omega
  · obtain rfl : b5 = false := by rw [HB5.out]; exact decide_eq_false hgo
    obtain ⟨out', hout'⟩ : ∃ out', out' = out.take j ++ [x] ++ out.drop j := ⟨_, rfl⟩
    have hins := ins_sorted HSORT.out (show j ≤ out.length by rw [HOL.out]; exact hj) HLT.out (fun y hy hl => hgo ⟨y, hy, hl⟩)
    rw [← hout'] at hins
    have HS' := Lib.hid hins.1
    have HP := Lib.hid (show out'.Perm (l.take (k + 1)) from by
      have h1 := hins.2
      have h2 : l.take (k + 1) = l.take k ++ [x] := by rw [List.take_add_one, HX.out]; rfl
      rw [h2]
      exact h1.trans ((HPERM.out.cons x).trans (List.perm_append_comm (l₁ := [x]))) )
    have HM := Lib.hid (show ovs (out.take j) ++ ovs [x] ++ ovs (out.drop j) = ovs out' by rw [hout', ovs_app, ovs_app])
    have SW := Lib.hid sc
    clear hgo sc HB5 sr SR hins HSORT HPERM HLT
    clear hout' HX
    obtain ⟨wz, hwz⟩ : ∃ wz, wz = wc := ⟨_, rfl⟩
    subst hwz
    have S1 := SW
    have hcap : k ≤ cb ∧ cb ≤ maxLen := by
      obtain ⟨A', c', hv, h1, h2⟩ := (S1.out.lis 0 rfl).shape
      injection hv with _ _ hv
      subst hv; exact ⟨h1, h2⟩
    unfold maxLen at hcap
    have HB := Lib.hid (show ∀ W, Below w.heap.size w W → Below w.heap.size w W from fun W h => h)
    have zE := S1.out.drew.lis_new 32 3 0 #[] rfl (by unfold maxLen; omega)
    have zX := S1.out.drew.lis_new 32 3 1 #[.int .i64 x.id, .int .u64 x.dead, .int .i64 x.track] rfl (by unfold maxLen; omega)
    have zEX := zE.lis_new 32 3 1 #[.int .i64 x.id, .int .u64 x.dead, .int .i64 x.track] rfl (by unfold maxLen; omega)
    have zXE := zX.lis_new 32 3 0 #[] rfl (by unfold maxLen; omega)
    rw [show (wz.drew.alloc (.cells #[] 32)).heap.size = wz.heap.size + 1 by simp] at zEX
    rw [show (wz.drew.alloc (.cells #[.int .i64 x.id, .int .u64 x.dead, .int .i64 x.track] 32)).heap.size = wz.heap.size + 1 by simp] at zXE
    have yE := S1.out.lis_new 32 3 0 #[] rfl (by unfold maxLen; omega)
    have yX := S1.out.lis_new 32 3 1 #[.int .i64 x.id, .int .u64 x.dead, .int .i64 x.track] rfl (by unfold maxLen; omega)
    obtain ⟨a0, a1, a2, a3⟩ := CE.out _ S1.out.below
    obtain ⟨b0, b1, b2, b3⟩ := CE.out _ yE.below
    obtain ⟨c0, c1, c2, c3⟩ := CE.out _ yX.below
    obtain ⟨d0, d1, d2, d3⟩ := CE.out _ (yE.lis_new 32 3 1 #[.int .i64 x.id, .int .u64 x.dead, .int .i64 x.track] rfl (by unfold maxLen; omega)).below
    obtain ⟨e0, e1, e2, e3⟩ := CE.out _ (yX.lis_new 32 3 0 #[] rfl (by unfold maxLen; omega)).below
    have HT := Lib.hid (ovs_take out j)
    have RZE := Lib.hid (((zE.lis 0 rfl).upto (show j ≤ k by omega)).reads)
    have RZX := Lib.hid (((zEX.lis 0 rfl).upto (show j ≤ k by omega)).reads)
    have RXZ := Lib.hid (((zXE.lis 0 rfl).upto (show j ≤ k by omega)).reads)
    rw [HT.out] at RZE RZX RXZ
    have ZE := Lib.hid zE
    have ZX := Lib.hid zEX
    have XZ := Lib.hid zXE
    have v2 : j ≤ cb := by omega
    have v3 : (j : Int) ≤ (cb : Int) := by omega
    have v4 : (j : Int) ≤ (k : Int) := by omega
    clear zE zX zEX zXE yE yX HT
    by_cases hca : cb = j
    · subst hca
      obtain rfl : k = cb := by omega
      have CUT := Lib.hid (fun W (K : Lis W 32 3 (.slice B k k) k (ovs out)) => show Rds W B 0 3 (ovs (out.drop k)) from by
        have h := (K.cut (show k ≤ k by omega)).reads
        rw [if_pos rfl, ovs_drop, Nat.sub_self] at h; exact h)
      go_wp2_with fail
      go_region_law (first
        | (refine step_lis (by rfl) _ _ _ (by rfl) 32 iK (.agg #[.int .i64 0, .int .u64 0, .int .i64 0]) 3 24 Try.underlying27 hiK hzK hsK hbK (by rfl) (by omega) (.slice (some ⟨wz.heap.size, 0, none⟩) 0 0) 0 [] (by rfl) (ZE.out.lis 1 rfl) B k k (ovs (out.take k)) (by rfl) RZE.out (ovs_one _) (by unfold maxLen; omega) (by omega) ?_; intro B6 c6 w6 hl hg hat; have t6 := ZE.out.lis_put 1 rfl hl hg hat; simp only [Nat.zero_add, List.nil_append] at t6 ⊢; obtain ⟨h0, h1, h2, h3⟩ := CE.out w6 (HB.out w6 t6.below); have x6 := t6.lis_new 32 3 1 #[.int .i64 x.id, .int .u64 x.dead, .int .i64 x.track] rfl (by unfold maxLen; omega); obtain ⟨g0, g1, g2, g3⟩ := CE.out _ (HB.out _ x6.below); have PX := Lib.hid x6; have RX := Lib.hid (x6.lis 2 rfl).reads; clear x6; have PE := Lib.hid t6; clear hl hg hat t6)
        | (refine step_lis (by rfl) _ _ _ (by rfl) 32 iK (.agg #[.int .i64 0, .int .u64 0, .int .i64 0]) 3 24 Try.underlying27 hiK hzK hsK hbK (by rfl) (by omega) (.slice (some ⟨wz.heap.size, 0, none⟩) 0 0) 0 [] (by rfl) (ZX.out.lis 1 rfl) B k k (ovs (out.take k)) (by rfl) RZX.out (ovs_one _) (by unfold maxLen; omega) (by omega) ?_; intro B6 c6 w6 hl hg hat; have t6 := ZX.out.lis_put 1 rfl hl hg hat; simp only [Nat.zero_add, List.nil_append] at t6 ⊢; obtain ⟨h0, h1, h2, h3⟩ := CE.out w6 (HB.out w6 t6.below); have PZX := Lib.hid t6; clear hl hg hat t6)
        | (refine step_lis (by rfl) _ _ _ (by rfl) 32 iK (.agg #[.int .i64 0, .int .u64 0, .int .i64 0]) 3 24 Try.underlying27 hiK hzK hsK hbK (by rfl) (by omega) (.slice (some ⟨wz.heap.size + 1, 0, none⟩) 0 0) 0 [] (by rfl) (XZ.out.lis 2 rfl) B k k (ovs (out.take k)) (by rfl) RXZ.out (ovs_one _) (by unfold maxLen; omega) (by omega) ?_; intro B6 c6 w6 hl hg hat; have t6 := XZ.out.lis_put 2 rfl hl hg hat; simp only [Nat.zero_add, List.nil_append] at t6 ⊢; obtain ⟨h0, h1, h2, h3⟩ := CE.out w6 (HB.out w6 t6.below); have PXZ := Lib.hid t6; clear hl hg hat t6)
        | (refine step_lis (by rfl) _ _ _ (by rfl) 32 iK (.agg #[.int .i64 0, .int .u64 0, .int .i64 0]) 3 24 Try.underlying27 hiK hzK hsK hbK (by rfl) (by omega) (.slice B6 k c6) k (ovs (out.take k)) (by rfl) (PX.out.lis 1 rfl) (some ⟨w6.heap.size, 0, none⟩) 1 1 (ovs [x]) (by rfl) RX.out (ovs_one _) (by unfold maxLen; omega) (by omega) ?_; intro B7 c7 w7 hl hg hat; have t7 := PX.out.lis_put 1 rfl hl hg hat; have s7 := t7.take 2; have F7 := Lib.hid s7; have R7 := Lib.hid (CUT.out w7 (s7.lis 0 rfl)); clear hl hg hat t7 s7)
        | (refine step_lis (by rfl) _ _ _ (by rfl) 32 iK (.agg #[.int .i64 0, .int .u64 0, .int .i64 0]) 3 24 Try.underlying27 hiK hzK hsK hbK (by rfl) (by omega) (.slice B6 k c6) k (ovs (out.take k)) (by rfl) (PZX.out.lis 1 rfl) (some ⟨wz.heap.size + 1, 0, none⟩) 1 1 (ovs [x]) (by rfl) (PZX.out.lis 2 rfl).reads (ovs_one _) (by unfold maxLen; omega) (by omega) ?_; intro B7 c7 w7 hl hg hat; have t7 := PZX.out.lis_put 1 rfl hl hg hat; have s7 := t7.take 2; have F7 := Lib.hid s7; have R7 := Lib.hid (CUT.out w7 (s7.lis 0 rfl)); clear hl hg hat t7 s7)
        | (refine step_lis (by rfl) _ _ _ (by rfl) 32 iK (.agg #[.int .i64 0, .int .u64 0, .int .i64 0]) 3 24 Try.underlying27 hiK hzK hsK hbK (by rfl) (by omega) (.slice B6 k c6) k (ovs (out.take k)) (by rfl) (PXZ.out.lis 2 rfl) (some ⟨wz.heap.size, 0, none⟩) 1 1 (ovs [x]) (by rfl) (PXZ.out.lis 1 rfl).reads (ovs_one _) (by unfold maxLen; omega) (by omega) ?_; intro B7 c7 w7 hl hg hat; have t7 := PXZ.out.lis_put 2 rfl hl hg hat; have s7 := t7.drop 1 (by simp); have F7 := Lib.hid s7; have R7 := Lib.hid (CUT.out w7 (s7.lis 0 rfl)); clear hl hg hat t7 s7)
        | (refine step_lis (by rfl) _ _ _ (by rfl) 32 iK (.agg #[.int .i64 0, .int .u64 0, .int .i64 0]) 3 24 Try.underlying27 hiK hzK hsK hbK (by rfl) (by omega) (.slice B7 (k + 1) c7) (k + 1) (ovs (out.take k) ++ (ovs [x])) (by rfl) (F7.out.lis 1 rfl) B 0 0 (ovs (out.drop k)) (by rfl) R7.out (ovs_one _) (by unfold maxLen; omega) (by omega) ?_; intro B8 c8 w8 hl hg hat; have t8 := F7.out.lis_put 1 rfl hl hg hat; rw [HM.out] at t8; have T8 := Lib.hid (t8.drop 0 (by simp)); clear hl hg hat t8))
      all_goals
        go_wp2_with fail
        have T9 := T8.out
        go_roundw
        case rel => exact ⟨k + 1, out', B8, c8, by omega, by go_num, rfl, HP.out, HS'.out, T9⟩
        case measure => simp [intOf]; omega
    · obtain ⟨gb, ob, rfl⟩ : ∃ gb ob, B = some ⟨gb, ob, none⟩ := by
        rcases (S1.out.lis 0 rfl).2 with ⟨hv, _⟩ | ⟨g, off, cp, arr, hv, _⟩
        · injection hv with h1 h2 h3; omega
        · injection hv with h1 h2 h3; exact ⟨g, off, h1⟩
      have CUT := Lib.hid (fun W (K : Lis W 32 3 (.slice (some ⟨gb, ob, none⟩) k cb) k (ovs out)) => show Rds W (some ⟨gb, ob + j * 3, none⟩) (k - j) 3 (ovs (out.drop j)) from by
        have h := (K.cut (show j ≤ k by omega)).reads
        rw [if_neg hca, ovs_drop] at h; simpa only [Option.map_some, Go.WideShapes.add_plain] using h)
      have HL := Lib.hid (show j + 1 + (k - j) = k + 1 by omega)
      go_wp2_with fail
      go_region_law (first
        | (refine step_lis (by rfl) _ _ _ (by rfl) 32 iK (.agg #[.int .i64 0, .int .u64 0, .int .i64 0]) 3 24 Try.underlying27 hiK hzK hsK hbK (by rfl) (by omega) (.slice (some ⟨wz.heap.size, 0, none⟩) 0 0) 0 [] (by rfl) (ZE.out.lis 1 rfl) (some ⟨gb, ob, none⟩) j cb (ovs (out.take j)) (by rfl) RZE.out (ovs_one _) (by unfold maxLen; omega) (by omega) ?_; intro B6 c6 w6 hl hg hat; have t6 := ZE.out.lis_put 1 rfl hl hg hat; simp only [Nat.zero_add, List.nil_append] at t6 ⊢; obtain ⟨h0, h1, h2, h3⟩ := CE.out w6 (HB.out w6 t6.below); have x6 := t6.lis_new 32 3 1 #[.int .i64 x.id, .int .u64 x.dead, .int .i64 x.track] rfl (by unfold maxLen; omega); obtain ⟨g0, g1, g2, g3⟩ := CE.out _ (HB.out _ x6.below); have PX := Lib.hid x6; have RX := Lib.hid (x6.lis 2 rfl).reads; clear x6; have PE := Lib.hid t6; clear hl hg hat t6)
        | (refine step_lis (by rfl) _ _ _ (by rfl) 32 iK (.agg #[.int .i64 0, .int .u64 0, .int .i64 0]) 3 24 Try.underlying27 hiK hzK hsK hbK (by rfl) (by omega) (.slice (some ⟨wz.heap.size, 0, none⟩) 0 0) 0 [] (by rfl) (ZX.out.lis 1 rfl) (some ⟨gb, ob, none⟩) j cb (ovs (out.take j)) (by rfl) RZX.out (ovs_one _) (by unfold maxLen; omega) (by omega) ?_; intro B6 c6 w6 hl hg hat; have t6 := ZX.out.lis_put 1 rfl hl hg hat; simp only [Nat.zero_add, List.nil_append] at t6 ⊢; obtain ⟨h0, h1, h2, h3⟩ := CE.out w6 (HB.out w6 t6.below); have PZX := Lib.hid t6; clear hl hg hat t6)
        | (refine step_lis (by rfl) _ _ _ (by rfl) 32 iK (.agg #[.int .i64 0, .int .u64 0, .int .i64 0]) 3 24 Try.underlying27 hiK hzK hsK hbK (by rfl) (by omega) (.slice (some ⟨wz.heap.size + 1, 0, none⟩) 0 0) 0 [] (by rfl) (XZ.out.lis 2 rfl) (some ⟨gb, ob, none⟩) j cb (ovs (out.take j)) (by rfl) RXZ.out (ovs_one _) (by unfold maxLen; omega) (by omega) ?_; intro B6 c6 w6 hl hg hat; have t6 := XZ.out.lis_put 2 rfl hl hg hat; simp only [Nat.zero_add, List.nil_append] at t6 ⊢; obtain ⟨h0, h1, h2, h3⟩ := CE.out w6 (HB.out w6 t6.below); have PXZ := Lib.hid t6; clear hl hg hat t6)
        | (refine step_lis (by rfl) _ _ _ (by rfl) 32 iK (.agg #[.int .i64 0, .int .u64 0, .int .i64 0]) 3 24 Try.underlying27 hiK hzK hsK hbK (by rfl) (by omega) (.slice B6 j c6) j (ovs (out.take j)) (by rfl) (PX.out.lis 1 rfl) (some ⟨w6.heap.size, 0, none⟩) 1 1 (ovs [x]) (by rfl) RX.out (ovs_one _) (by unfold maxLen; omega) (by omega) ?_; intro B7 c7 w7 hl hg hat; have t7 := PX.out.lis_put 1 rfl hl hg hat; have s7 := t7.take 2; have F7 := Lib.hid s7; have R7 := Lib.hid (CUT.out w7 (s7.lis 0 rfl)); clear hl hg hat t7 s7)
        | (refine step_lis (by rfl) _ _ _ (by rfl) 32 iK (.agg #[.int .i64 0, .int .u64 0, .int .i64 0]) 3 24 Try.underlying27 hiK hzK hsK hbK (by rfl) (by omega) (.slice B6 j c6) j (ovs (out.take j)) (by rfl) (PZX.out.lis 1 rfl) (some ⟨wz.heap.size + 1, 0, none⟩) 1 1 (ovs [x]) (by rfl) (PZX.out.lis 2 rfl).reads (ovs_one _) (by unfold maxLen; omega) (by omega) ?_; intro B7 c7 w7 hl hg hat; have t7 := PZX.out.lis_put 1 rfl hl hg hat; have s7 := t7.take 2; have F7 := Lib.hid s7; have R7 := Lib.hid (CUT.out w7 (s7.lis 0 rfl)); clear hl hg hat t7 s7)
        | (refine step_lis (by rfl) _ _ _ (by rfl) 32 iK (.agg #[.int .i64 0, .int .u64 0, .int .i64 0]) 3 24 Try.underlying27 hiK hzK hsK hbK (by rfl) (by omega) (.slice B6 j c6) j (ovs (out.take j)) (by rfl) (PXZ.out.lis 2 rfl) (some ⟨wz.heap.size, 0, none⟩) 1 1 (ovs [x]) (by rfl) (PXZ.out.lis 1 rfl).reads (ovs_one _) (by unfold maxLen; omega) (by omega) ?_; intro B7 c7 w7 hl hg hat; have t7 := PXZ.out.lis_put 2 rfl hl hg hat; have s7 := t7.drop 1 (by simp); have F7 := Lib.hid s7; have R7 := Lib.hid (CUT.out w7 (s7.lis 0 rfl)); clear hl hg hat t7 s7)
        | (refine step_lis (by rfl) _ _ _ (by rfl) 32 iK (.agg #[.int .i64 0, .int .u64 0, .int .i64 0]) 3 24 Try.underlying27 hiK hzK hsK hbK (by rfl) (by omega) (.slice B7 (j + 1) c7) (j + 1) (ovs (out.take j) ++ (ovs [x])) (by rfl) (F7.out.lis 1 rfl) (some ⟨gb, ob + j * 3, none⟩) (k - j) (cb - j) (ovs (out.drop j)) (by rfl) R7.out (ovs_one _) (by unfold maxLen; omega) (by omega) ?_; intro B8 c8 w8 hl hg hat; have t8 := F7.out.lis_put 1 rfl hl hg hat; rw [HM.out] at t8; have T8 := Lib.hid (t8.drop 0 (by simp)); clear hl hg hat t8))
      all_goals
        go_wp2_with fail
        have T9 := T8.out
        rw [HL.out] at T9 ⊢
        go_roundw
        case rel => exact ⟨k + 1, out', B8, c8, by omega, by go_num, rfl, HP.out, HS'.out, T9⟩
        case measure => simp [intOf]; omega
theorem rAll_o (H : St w0 S0 w L) (i : Nat) (hi : L[i]? = some (RQR r s)) (hs : s.ok) : Calls Try.prog 24 #[.pointer (some ⟨r, 0, none⟩)] w (AllP s w0 S0 L) := by
  obtain ⟨T, hT⟩ := H.get i hi
  refine (rAll_c hT hs).mono ?_
  rintro e w' ⟨B, d, l', he, h1, h2, h3⟩
  exact ⟨B, d, l', he, h1, h2, H.join h3⟩
end
end Go.Proofs.Ytmikjbhhnndncaa
