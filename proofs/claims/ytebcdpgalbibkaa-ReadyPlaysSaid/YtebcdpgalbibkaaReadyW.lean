/- Layer 15: the document's own queue: Come. Printed by bin/genY2.py. -/
import Derived.Test.YtebcdpgalbibkaaReadyS
import Derived.Test.YtebcdpgalbibkaaReadyH
import Derived.Test.YtebcdpgalbibkaaReadyQ
namespace Go.Proofs.Ytebcdpgalbibkaa
open Go.RowKit
set_option linter.unusedVariables false
set_option maxRecDepth 100000
set_option maxHeartbeats 16000000
section
variable {w0 w w' : World} {S0 S : Nat → Prop} {L : List Res} {r : Nat} {s s' : QS}
theorem come_end {m : Nat} {A : Option Addr} {c : Nat} (hr : Star (RQL r A c s.all) w S) (hs : s.ok m) (j p i : Nat) (hm : mayQ (j : Int) (p : Int)) (hnq : s.pr j = none) (hin : i ≤ s.all.length) (heq : (s.come j p).all = s.all.take i ++ [(j, p)] ++ s.all.drop i) (hle : ∀ (k : Nat) (x : Nat × Nat), k < i → s.all[k]? = some x → x.2 ≤ p) (hgt : ∀ x, s.all[i]? = some x → p < x.2) (hca : c ≠ i) (ke : ¬ i < s.all.length) :
    Calls Try.prog 11 #[.pointer (some ⟨r, 0, none⟩), .int .i64 (j : Int), .int .i64 (p : Int)] w fun e w' => e = .returned (.int .i64 0) ∧ ∃ S', RQR r (s.come j p).all w' S' ∧ Did S S' w w' := by
  obtain ⟨iK, hiK, hzK, hsK, hbK⟩ := info3 Try.infoMem
  have hlen : s.all.length ≤ 1000 := Nat.le_trans hs.len hs.mx
  have FI := Lib.hid (find_c ⟨A, c, hr⟩ hlen (j : Int))
  have M2 := Lib.hid ((rmay_c (j : Int) (p : Int) w true) (decide_eq_true hm).symm)
  have HMQ := Lib.hid hm
  have HS := Lib.hid hs
  have HNQ := Lib.hid hnq
  have s0 := St.start hr
  have S0' := Lib.hid s0
  have HALL := Lib.hid (And.intro hin (And.intro heq (And.intro hle (And.intro hgt (And.intro hca ke)))))
  clear hr hs s0 hm hnq hin heq hle hgt hca ke
  go_enter Try.func11, Try.ntmps11
  go_wp2_with fail
  refine M2.out.mono ?_
  rintro e w1 ⟨rfl, rfl⟩
  go_wp2_with fail
  refine FI.out.mono ?_
  rintro e w1 ⟨⟨z, rfl, hz⟩, rfl⟩
  rcases find_go HS.out hz with ⟨rfl, hno, -⟩ | ⟨i', j', p', rfl, hj', -, hp', -⟩
  case inr =>
    exfalso
    obtain rfl : j = j' := by omega
    rw [HNQ.out] at hp'; cases hp'
  case inl =>
    obtain ⟨⟨i0, i1⟩, p0, p1⟩ := HMQ.out
    obtain ⟨hin, heq, hle, hgt, HC0, KE0⟩ := HALL.out
    clear hno hz FI M2 HMQ HALL HNQ
    generalize hG : (s.come j p).all = l' at *
    have HG := Lib.hid hG
    clear hG
    generalize s.all = l at *
    obtain ⟨n, hn⟩ : ∃ n, l.length = n := ⟨_, rfl⟩
    have S1 := Lib.hid (show St w1 S w1 [BlkR r 29 #[.slice A n c], LisR 56 2 (.slice A n c) n (mvs l)] by rw [← hn]; exact S0'.out)
    have HL := Lib.hid (show i + 1 + (n - i) = l'.length by rw [heq]; simp; omega)
    have HM := Lib.hid (show mvs (l.take i) ++ [.int .i64 (j : Nat), .int .i64 (p : Nat)] ++ mvs (l.drop i) = mvs l' by rw [heq, mvs_app, mvs_app]; rfl)
    rw [hn] at hin hlen KE0
    have HN := Lib.hid hn
    have HLE := Lib.hid hle
    have HGT := Lib.hid hgt
    have q0 := (S1.out.blk 0 rfl).one
    have LS := Lib.hid (S1.out.lis 1 rfl)
    have hcap : n ≤ c ∧ c ≤ maxLen := by
      obtain ⟨A', c', hv, h1, h2⟩ := LS.out.shape
      injection hv with _ _ hv
      subst hv; exact ⟨h1, h2⟩
    unfold maxLen at hcap
    clear heq hle hgt hn S0'
    have HC := Lib.hid (And.intro HC0 KE0)
    clear HC0 KE0
    go_wp2_with fail
    go_loopw [7] (fun x wr => ∃ k : Nat, k ≤ i ∧ x = .int .i64 (k : Int) ∧ wr = w1) (fun x _ => i - (intOf x).toNat)
    case atStart => exact ⟨0, by omega, rfl, rfl⟩
    case round =>
    obtain ⟨k, hk, rfl, rfl⟩ := hrel
    by_cases hlt : k < i
    · obtain ⟨x, hx⟩ : ∃ x, l[k]? = some x := ⟨l[k]'(by have := HN.out; omega), List.getElem?_eq_getElem _⟩
      obtain ⟨b, off, rfl, m0, m1⟩ := mem_cell (c := c) (by rw [HN.out]; exact LS.out) hx
      have hxp := HLE.out k x hlt hx
      obtain ⟨x1, x2⟩ := x
      dsimp only at m0 m1 hxp
      have y0 : decide ((k : Int) < (n : Int)) = true := decide_eq_true (by omega)
      have y0' : decide (k < n) = true := decide_eq_true (by omega)
      have y1 : decide ((x2 : Int) ≤ (p : Int)) = true := decide_eq_true (by omega)
      have y1' : decide (x2 ≤ p) = true := decide_eq_true hxp
      clear hx
      go_wp2_with fail
      go_roundw
      case rel => exact ⟨k + 1, by omega, by go_num, by first | rfl | trivial⟩
      case measure => simp [intOf]; omega
    obtain rfl : i = k := by omega
    have zE := S1.out.drew.lis_new 56 2 0 #[] rfl (by unfold maxLen; omega)
    have zX := S1.out.drew.lis_new 56 2 1 #[.int .i64 (j : Nat), .int .i64 (p : Nat)] rfl (by unfold maxLen; omega)
    have zEX := zE.lis_new 56 2 1 #[.int .i64 (j : Nat), .int .i64 (p : Nat)] rfl (by unfold maxLen; omega)
    have zXE := zX.lis_new 56 2 0 #[] rfl (by unfold maxLen; omega)
    rw [show (wr.drew.alloc (.cells #[] 56)).heap.size = wr.heap.size + 1 by simp] at zEX
    rw [show (wr.drew.alloc (.cells #[.int .i64 (j : Nat), .int .i64 (p : Nat)] 56)).heap.size = wr.heap.size + 1 by simp] at zXE
    have yE := S1.out.lis_new 56 2 0 #[] rfl (by unfold maxLen; omega)
    have yX := S1.out.lis_new 56 2 1 #[.int .i64 (j : Nat), .int .i64 (p : Nat)] rfl (by unfold maxLen; omega)
    have q1 := (yE.blk 0 rfl).one
    have q2 := (yX.blk 0 rfl).one
    have q3 := ((yE.lis_new 56 2 1 #[.int .i64 (j : Nat), .int .i64 (p : Nat)] rfl (by unfold maxLen; omega)).blk 0 rfl).one
    have q4 := ((yX.lis_new 56 2 0 #[] rfl (by unfold maxLen; omega)).blk 0 rfl).one
    have HT := Lib.hid (mvs_take l i)
    have RZE := Lib.hid (((zE.lis 1 rfl).upto (show i ≤ n by omega)).reads)
    have RZX := Lib.hid (((zEX.lis 1 rfl).upto (show i ≤ n by omega)).reads)
    have RXZ := Lib.hid (((zXE.lis 1 rfl).upto (show i ≤ n by omega)).reads)
    rw [HT.out] at RZE RZX RXZ
    have ZE := Lib.hid zE
    have ZX := Lib.hid zEX
    have XZ := Lib.hid zXE
    have v0 : (0 : Int) ≤ (i : Int) := by omega
    have v1 : i ≤ c := by omega
    have v2 : (i : Int) ≤ (c : Int) := by omega
    have v4 : (i : Int) ≤ (n : Int) := by omega
    clear zE zX zEX zXE yE yX hk hlt HT
    obtain ⟨hca, ke⟩ := HC.out
    clear HC
    obtain ⟨b, off, rfl⟩ : ∃ b off, A = some ⟨b, off, none⟩ := by
      rcases LS.out.2 with ⟨hv, _⟩ | ⟨g, off, cp, arr, hv, _⟩
      · injection hv with h1 h2 h3; omega
      · injection hv with h1 h2 h3; exact ⟨g, off, h1⟩
    have CUT := Lib.hid (fun W (K : Lis W 56 2 (.slice (some ⟨b, off, none⟩) n c) n (mvs l)) => show Rds W (some ⟨b, off + i * 2, none⟩) (n - i) 2 (mvs (l.drop i)) from by
      have h := (K.cut (show i ≤ n by omega)).reads
      rw [if_neg hca, mvs_drop] at h; simpa only [Option.map_some, Go.WideShapes.add_plain] using h)
    have y0 : decide ((i : Int) < (n : Int)) = false := decide_eq_false (by omega)
    have y0' : decide (i < n) = false := decide_eq_false (by omega)
    go_wp2_with fail
    go_region_law (first
      | (refine step_lis (by rfl) _ _ _ (by rfl) 56 iK (.agg #[.int .i64 0, .int .i64 0]) 2 16 Try.underlying27 hiK hzK hsK hbK (by rfl) (by omega) (.slice (some ⟨wr.heap.size, 0, none⟩) 0 0) 0 [] (by rfl) (ZE.out.lis 2 rfl) (some ⟨b, off, none⟩) i c (mvs (l.take i)) (by rfl) RZE.out (mvs_one _) (by unfold maxLen; omega) (by omega) ?_; intro B6 c6 w6 hl hg hat; have t6 := ZE.out.lis_put 2 rfl hl hg hat; simp only [Nat.zero_add, List.nil_append] at t6 ⊢; have q6 := (t6.blk 0 rfl).one; have x6 := t6.lis_new 56 2 1 #[.int .i64 (j : Nat), .int .i64 (p : Nat)] rfl (by unfold maxLen; omega); have y6 := (x6.blk 0 rfl).one; have PX := Lib.hid x6; have RX := Lib.hid (x6.lis 3 rfl).reads; clear x6; have PE := Lib.hid t6; clear hl hg hat t6)
      | (refine step_lis (by rfl) _ _ _ (by rfl) 56 iK (.agg #[.int .i64 0, .int .i64 0]) 2 16 Try.underlying27 hiK hzK hsK hbK (by rfl) (by omega) (.slice (some ⟨wr.heap.size, 0, none⟩) 0 0) 0 [] (by rfl) (ZX.out.lis 2 rfl) (some ⟨b, off, none⟩) i c (mvs (l.take i)) (by rfl) RZX.out (mvs_one _) (by unfold maxLen; omega) (by omega) ?_; intro B6 c6 w6 hl hg hat; have t6 := ZX.out.lis_put 2 rfl hl hg hat; simp only [Nat.zero_add, List.nil_append] at t6 ⊢; have q6 := (t6.blk 0 rfl).one; have PZX := Lib.hid t6; clear hl hg hat t6)
      | (refine step_lis (by rfl) _ _ _ (by rfl) 56 iK (.agg #[.int .i64 0, .int .i64 0]) 2 16 Try.underlying27 hiK hzK hsK hbK (by rfl) (by omega) (.slice (some ⟨wr.heap.size + 1, 0, none⟩) 0 0) 0 [] (by rfl) (XZ.out.lis 3 rfl) (some ⟨b, off, none⟩) i c (mvs (l.take i)) (by rfl) RXZ.out (mvs_one _) (by unfold maxLen; omega) (by omega) ?_; intro B6 c6 w6 hl hg hat; have t6 := XZ.out.lis_put 3 rfl hl hg hat; simp only [Nat.zero_add, List.nil_append] at t6 ⊢; have q6 := (t6.blk 0 rfl).one; have PXZ := Lib.hid t6; clear hl hg hat t6)
      | (refine step_lis (by rfl) _ _ _ (by rfl) 56 iK (.agg #[.int .i64 0, .int .i64 0]) 2 16 Try.underlying27 hiK hzK hsK hbK (by rfl) (by omega) (.slice B6 i c6) i (mvs (l.take i)) (by rfl) (PX.out.lis 2 rfl) (some ⟨w6.heap.size, 0, none⟩) 1 1 [.int .i64 (j : Nat), .int .i64 (p : Nat)] (by rfl) RX.out (mvs_one [(j, p)]) (by unfold maxLen; omega) (by omega) ?_; intro B7 c7 w7 hl hg hat; have t7 := PX.out.lis_put 2 rfl hl hg hat; have s7 := t7.take 3; have q7 := (s7.blk 0 rfl).one; have F7 := Lib.hid s7; have R7 := Lib.hid (CUT.out w7 (s7.lis 1 rfl)); clear hl hg hat t7 s7)
      | (refine step_lis (by rfl) _ _ _ (by rfl) 56 iK (.agg #[.int .i64 0, .int .i64 0]) 2 16 Try.underlying27 hiK hzK hsK hbK (by rfl) (by omega) (.slice B6 i c6) i (mvs (l.take i)) (by rfl) (PZX.out.lis 2 rfl) (some ⟨wr.heap.size + 1, 0, none⟩) 1 1 [.int .i64 (j : Nat), .int .i64 (p : Nat)] (by rfl) (PZX.out.lis 3 rfl).reads (mvs_one [(j, p)]) (by unfold maxLen; omega) (by omega) ?_; intro B7 c7 w7 hl hg hat; have t7 := PZX.out.lis_put 2 rfl hl hg hat; have s7 := t7.take 3; have q7 := (s7.blk 0 rfl).one; have F7 := Lib.hid s7; have R7 := Lib.hid (CUT.out w7 (s7.lis 1 rfl)); clear hl hg hat t7 s7)
      | (refine step_lis (by rfl) _ _ _ (by rfl) 56 iK (.agg #[.int .i64 0, .int .i64 0]) 2 16 Try.underlying27 hiK hzK hsK hbK (by rfl) (by omega) (.slice B6 i c6) i (mvs (l.take i)) (by rfl) (PXZ.out.lis 3 rfl) (some ⟨wr.heap.size, 0, none⟩) 1 1 [.int .i64 (j : Nat), .int .i64 (p : Nat)] (by rfl) (PXZ.out.lis 2 rfl).reads (mvs_one [(j, p)]) (by unfold maxLen; omega) (by omega) ?_; intro B7 c7 w7 hl hg hat; have t7 := PXZ.out.lis_put 3 rfl hl hg hat; have s7 := t7.drop 2 (by simp); have q7 := (s7.blk 0 rfl).one; have F7 := Lib.hid s7; have R7 := Lib.hid (CUT.out w7 (s7.lis 1 rfl)); clear hl hg hat t7 s7)
      | (refine step_lis (by rfl) _ _ _ (by rfl) 56 iK (.agg #[.int .i64 0, .int .i64 0]) 2 16 Try.underlying27 hiK hzK hsK hbK (by rfl) (by omega) (.slice B7 (i + 1) c7) (i + 1) (mvs (l.take i) ++ [.int .i64 (j : Nat), .int .i64 (p : Nat)]) (by rfl) (F7.out.lis 2 rfl) (some ⟨b, off + i * 2, none⟩) (n - i) (c - i) (mvs (l.drop i)) (by rfl) R7.out (mvs_one _) (by unfold maxLen; omega) (by omega) ?_; intro B8 c8 w8 hl hg hat; have t8 := F7.out.lis_put 2 rfl hl hg hat; rw [HM.out] at t8; have q8 := (t8.blk 0 rfl).one; have f8 := (t8.blk 0 rfl).frozen 0; have T8 := Lib.hid ((t8.drop 1 (by simp)).set_ 0 rfl 0 (.slice B8 (i + 1 + (n - i)) c8)); clear hl hg hat t8))
    all_goals
      go_wp2_with fail
      go_ret
      refine ⟨rfl, ?_⟩
      have T9 := T8.out
      rw [HL.out] at T9 ⊢
      rw [HG.out]
      exact T9.fin fun S' h => ⟨B8, c8, h⟩
end
end Go.Proofs.Ytebcdpgalbibkaa
