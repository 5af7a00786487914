/- Layer 25: a number laid where its mark says. -/
import Derived.Test.YtlceanlenekanaaDoorTraM
namespace Go.Proofs.YtlceanlenekanaaDoor
open Go.RowKit
set_option linter.unusedVariables false
set_option maxRecDepth 100000
set_option maxHeartbeats 4000000
theorem YtlceanlenekanaaDooriF : (Tryd.prog.info? 36).map (fun i => (i.zero, i.size, i.bytes)) = some (some (.agg #[.int .i64 0, .int .i64 0, .int .i64 0]), 3, 24) := by kernel_rfl
/-- A record being read, in memory. -/
@[reducible] def TkL (a : Nat) (t : Tk) (B1 B2 B3 B4 : Option Addr) (n1 n2 n3 n4 c1 c2 c3 c4 : Nat) : List Res :=
  [BlkR a 27 #[.int .i64 t.who, .slice B1 n1 c1, .slice B2 n2 c2, .slice B3 n3 c3, .slice B4 n4 c4],
   LisR 3 1 (.slice B1 n1 c1) n1 (ivI t.dn), LisR 3 1 (.slice B2 n2 c2) n2 (ivI t.ct), LisR 3 1 (.slice B3 n3 c3) n3 (ivI t.ms), LisR 36 3 (.slice B4 n4 c4) n4 (fCs t.ft)]
def TkN (t : Tk) (n1 n2 n3 n4 : Nat) : Prop := t.dn.length = n1 ∧ t.ct.length = n2 ∧ t.ms.length = n3 ∧ t.ft.length = n4
theorem rds_box3 (w : World) (e : TypeId) (u v x : Value) : Rds (w.alloc (.cells #[u, v, x] e)) (some ⟨w.heap.size, 0, none⟩) 1 3 [u, v, x] :=
  ⟨rfl, Or.inr ⟨_, _, rfl, fun j y hy => by
    match j, hy with
    | 0, hy => rw [(Blk.new w e #[u, v, x]).cell]; simpa using hy
    | 1, hy => rw [(Blk.new w e #[u, v, x]).cell]; simpa using hy
    | 2, hy => rw [(Blk.new w e #[u, v, x]).cell]; simpa using hy
    | j + 3, hy => simp at hy⟩⟩
theorem len_snoc {α : Type} {l : List α} {n : Nat} (x : α) (h : l.length = n) : (l ++ [x]).length = n + 1 := by rw [List.length_append, h]; rfl

theorem put_o {w0 w : World} {S0 : Nat → Prop} {a : Nat} {t : Tk} {B1 B2 B3 B4 : Option Addr} {n1 n2 n3 n4 c1 c2 c3 c4 : Nat} {X : List Res} (r x : Int) (H : St w0 S0 w (TkL a t B1 B2 B3 B4 n1 n2 n3 n4 c1 c2 c3 c4 ++ X)) (hN : TkN t n1 n2 n3 n4) (k1 : n1 ≤ 400000) (k2 : n2 ≤ 400000) (k3 : n3 ≤ 400000) (k4 : n4 ≤ 400000) (hx : 0 ≤ x ∧ x ≤ 2147483647) :
    Calls Tryd.prog 36 #[.pointer (some ⟨a, 0, none⟩), .int .i32 r, .int .i64 x] w fun e w' => (putI t r x = none ∧ e = .returned (.bool false) ∧ St w0 S0 w' (TkL a t B1 B2 B3 B4 n1 n2 n3 n4 c1 c2 c3 c4 ++ X)) ∨ ∃ t' B1' B2' B3' B4' m1 m2 m3 m4 d1 d2 d3 d4, putI t r x = some t' ∧ (m1 ≤ n1 + 1 ∧ m2 ≤ n2 + 1 ∧ m3 ≤ n3 + 1 ∧ m4 ≤ n4 + 1) ∧ TkN t' m1 m2 m3 m4 ∧ e = .returned (.bool true) ∧ St w0 S0 w' (TkL a t' B1' B2' B3' B4' m1 m2 m3 m4 d1 d2 d3 d4 ++ X) := by
  obtain ⟨iI, hiI, hzI, hsI, hbI⟩ := info3c YtlceanlenekanaaDooriI
  obtain ⟨iF, hiF, hzF, hsF, hbF⟩ := info3c YtlceanlenekanaaDooriF
  obtain ⟨N1, N2, N3, N4⟩ := hN
  obtain ⟨who, dn, ct, ms, ft⟩ := t
  unfold TkL at H
  obtain ⟨a0, a1, a2, a3, a4⟩ := (H.blk 0 rfl).five5
  have fa := (H.blk 0 rfl).frozen
  dsimp only at N1 N2 N3 N4 H a0 a1 a2 a3 a4
  by_cases r116 : r = 116
  · subst r116
    have S2 := Lib.hid (H.set_ 0 rfl 0 (.int .i64 (x)))
    clear H
    go_enter Tryd.func36, Tryd.ntmps36
    go_wp2
    go_ret
    exact Or.inr ⟨⟨x, dn, ct, ms, ft⟩, B1, B2, B3, B4, n1, n2, n3, n4, c1, c2, c3, c4, rfl, ⟨by omega, by omega, by omega, by omega⟩, ⟨N1, N2, N3, N4⟩, rfl, S2.out⟩
  have z116 : (r == 116) = false := beq_eq_false_iff_ne.2 r116
  by_cases r115 : r = 115
  · subst r115
    have S2 := Lib.hid (H.set_ 0 rfl 0 (.int .i64 (100 + x)))
    clear H
    go_enter Tryd.func36, Tryd.ntmps36
    go_wp2
    go_ret
    exact Or.inr ⟨⟨100 + x, dn, ct, ms, ft⟩, B1, B2, B3, B4, n1, n2, n3, n4, c1, c2, c3, c4, rfl, ⟨by omega, by omega, by omega, by omega⟩, ⟨N1, N2, N3, N4⟩, rfl, S2.out⟩
  have z115 : (r == 115) = false := beq_eq_false_iff_ne.2 r115
  by_cases r43 : r = 43
  · subst r43
    have e1 := cell_alloc a1 (.cells #[.int .i64 x] 3)
    have S3 := Lib.hid (H.alloc (.cells #[.int .i64 x] 3))
    have HL := Lib.hid (S3.out.lis 1 rfl)
    have RB := Lib.hid (rds_box w 3 (.int .i64 x))
    clear H
    go_enter Tryd.func36, Tryd.ntmps36
    go_wp2_with (first | (at_builtin; refine wpList_lis rfl (.tmp 30) (.tmp 32) 22 rfl 3 iI (.int .i64 0) 1 8 Tryd.underlying22 hiI hzI hsI hbI rfl (by decide) _ _ _ rfl HL.out _ 1 1 [.int .i64 x] rfl RB.out (by simp [Value.oneCell']) (by unfold maxLen; omega) (by omega) ?_; intro B6 c6 w6 hl hg hat; have s5 := S3.out.lis_put 1 rfl hl hg hat; have f5 := (s5.blk 0 rfl).frozen; have q5 := (s5.blk 0 rfl).five5.2.1; have X6 := Lib.hid (s5.set_ 0 rfl 1 (.slice B6 (n1 + 1) c6)); clear s5 hl hg hat) | fail)
    go_ret
    exact Or.inr ⟨⟨who, dn ++ [x], ct, ms, ft⟩, B6, B2, B3, B4, n1 + 1, n2, n3, n4, c6, c2, c3, c4, rfl, ⟨by omega, by omega, by omega, by omega⟩, ⟨len_snoc x N1, N2, N3, N4⟩, rfl, by (try unfold TkL); dsimp only; rw [ivI_snoc]; exact X6.out⟩
  have z43 : (r == 43) = false := beq_eq_false_iff_ne.2 r43
  by_cases r47 : r = 47
  · subst r47
    have e1 := cell_alloc a2 (.cells #[.int .i64 x] 3)
    have S3 := Lib.hid (H.alloc (.cells #[.int .i64 x] 3))
    have HL := Lib.hid (S3.out.lis 2 rfl)
    have RB := Lib.hid (rds_box w 3 (.int .i64 x))
    clear H
    go_enter Tryd.func36, Tryd.ntmps36
    go_wp2_with (first | (at_builtin; refine wpList_lis rfl (.tmp 44) (.tmp 46) 22 rfl 3 iI (.int .i64 0) 1 8 Tryd.underlying22 hiI hzI hsI hbI rfl (by decide) _ _ _ rfl HL.out _ 1 1 [.int .i64 x] rfl RB.out (by simp [Value.oneCell']) (by unfold maxLen; omega) (by omega) ?_; intro B6 c6 w6 hl hg hat; have s5 := S3.out.lis_put 2 rfl hl hg hat; have f5 := (s5.blk 0 rfl).frozen; have q5 := (s5.blk 0 rfl).five5.2.2.1; have X6 := Lib.hid (s5.set_ 0 rfl 2 (.slice B6 (n2 + 1) c6)); clear s5 hl hg hat) | fail)
    go_ret
    exact Or.inr ⟨⟨who, dn, ct ++ [x], ms, ft⟩, B1, B6, B3, B4, n1, n2 + 1, n3, n4, c1, c6, c3, c4, rfl, ⟨by omega, by omega, by omega, by omega⟩, ⟨N1, len_snoc x N2, N3, N4⟩, rfl, by (try unfold TkL); dsimp only; rw [ivI_snoc]; exact X6.out⟩
  have z47 : (r == 47) = false := beq_eq_false_iff_ne.2 r47
  by_cases r33 : r = 33
  · subst r33
    have e1 := cell_alloc a3 (.cells #[.int .i64 x] 3)
    have S3 := Lib.hid (H.alloc (.cells #[.int .i64 x] 3))
    have HL := Lib.hid (S3.out.lis 3 rfl)
    have RB := Lib.hid (rds_box w 3 (.int .i64 x))
    clear H
    go_enter Tryd.func36, Tryd.ntmps36
    go_wp2_with (first | (at_builtin; refine wpList_lis rfl (.tmp 58) (.tmp 60) 22 rfl 3 iI (.int .i64 0) 1 8 Tryd.underlying22 hiI hzI hsI hbI rfl (by decide) _ _ _ rfl HL.out _ 1 1 [.int .i64 x] rfl RB.out (by simp [Value.oneCell']) (by unfold maxLen; omega) (by omega) ?_; intro B6 c6 w6 hl hg hat; have s5 := S3.out.lis_put 3 rfl hl hg hat; have f5 := (s5.blk 0 rfl).frozen; have q5 := (s5.blk 0 rfl).five5.2.2.2.1; have X6 := Lib.hid (s5.set_ 0 rfl 3 (.slice B6 (n3 + 1) c6)); clear s5 hl hg hat) | fail)
    go_ret
    exact Or.inr ⟨⟨who, dn, ct, ms ++ [x], ft⟩, B1, B2, B6, B4, n1, n2, n3 + 1, n4, c1, c2, c6, c4, rfl, ⟨by omega, by omega, by omega, by omega⟩, ⟨N1, N2, len_snoc x N3, N4⟩, rfl, by (try unfold TkL); dsimp only; rw [ivI_snoc]; exact X6.out⟩
  have z33 : (r == 33) = false := beq_eq_false_iff_ne.2 r33
  by_cases r61 : r = 61
  · subst r61
    have e1 := cell_alloc a4 (.cells #[.int .i64 x, .int .i64 0, .int .i64 0] 36)
    have S3 := Lib.hid (H.alloc (.cells #[.int .i64 x, .int .i64 0, .int .i64 0] 36))
    have HL := Lib.hid (S3.out.lis 4 rfl)
    have RB := Lib.hid (rds_box3 w 36 (.int .i64 x) (.int .i64 0) (.int .i64 0))
    clear H
    go_enter Tryd.func36, Tryd.ntmps36
    go_wp2_with (first | (at_builtin; refine wpList_lis rfl (.tmp 71) (.tmp 74) 25 rfl 36 iF (.agg #[.int .i64 0, .int .i64 0, .int .i64 0]) 3 24 Tryd.underlying25 hiF hzF hsF hbF rfl (by decide) _ _ _ rfl HL.out _ 1 1 [.int .i64 x, .int .i64 0, .int .i64 0] rfl RB.out (by simp [Value.oneCell']) (by unfold maxLen; omega) (by omega) ?_; intro B6 c6 w6 hl hg hat; have s5 := S3.out.lis_put 4 rfl hl hg hat; have f5 := (s5.blk 0 rfl).frozen; have q5 := (s5.blk 0 rfl).five5.2.2.2.2; have X6 := Lib.hid (s5.set_ 0 rfl 4 (.slice B6 (n4 + 1) c6)); clear s5 hl hg hat) | fail)
    go_ret
    exact Or.inr ⟨⟨who, dn, ct, ms, ft ++ [(x, 0, 0)]⟩, B1, B2, B3, B6, n1, n2, n3, n4 + 1, c1, c2, c3, c6, rfl, ⟨by omega, by omega, by omega, by omega⟩, ⟨N1, N2, N3, len_snoc _ N4⟩, rfl, by (try unfold TkL); dsimp only; rw [fCs_app, fCs_one]; exact X6.out⟩
  have z61 : (r == 61) = false := beq_eq_false_iff_ne.2 r61
  by_cases r100 : r = 100
  · subst r100
    have KP := Lib.hid (putKind_o (q := 4) 1 x H rfl N4 (by omega))
    have HH := Lib.hid H
    clear H
    go_enter Tryd.func36, Tryd.ntmps36
    go_wp2_with fail
    refine KP.out.mono ?_
    rintro e w2 (⟨hs, rfl, rfl⟩ | ⟨fs, hs, hl, rfl, s2⟩)
    · have HP := Lib.hid (show putI ⟨who, dn, ct, ms, ft⟩ 100 x = none from by show (setL ft 1 x).map _ = none; rw [hs]; rfl)
      have s3 := HH.out
      clear hs
      go_wp2_with fail
      go_ret
      exact Or.inl ⟨HP.out, rfl, s3⟩
    · have HP := Lib.hid (show putI ⟨who, dn, ct, ms, ft⟩ 100 x = some ⟨who, dn, ct, ms, fs⟩ from by show (setL ft 1 x).map _ = _; rw [hs]; rfl)
      clear hs
      go_wp2_with fail
      go_ret
      exact Or.inr ⟨⟨who, dn, ct, ms, fs⟩, B1, B2, B3, B4, n1, n2, n3, n4, c1, c2, c3, c4, HP.out, ⟨by omega, by omega, by omega, by omega⟩, ⟨N1, N2, N3, hl⟩, rfl, s2⟩
  have z100 : (r == 100) = false := beq_eq_false_iff_ne.2 r100
  by_cases r97 : r = 97
  · subst r97
    have KP := Lib.hid (putKind_o (q := 4) 2 x H rfl N4 (by omega))
    have HH := Lib.hid H
    clear H
    go_enter Tryd.func36, Tryd.ntmps36
    go_wp2_with fail
    refine KP.out.mono ?_
    rintro e w2 (⟨hs, rfl, rfl⟩ | ⟨fs, hs, hl, rfl, s2⟩)
    · have HP := Lib.hid (show putI ⟨who, dn, ct, ms, ft⟩ 97 x = none from by show (setL ft 2 x).map _ = none; rw [hs]; rfl)
      have s3 := HH.out
      clear hs
      go_wp2_with fail
      go_ret
      exact Or.inl ⟨HP.out, rfl, s3⟩
    · have HP := Lib.hid (show putI ⟨who, dn, ct, ms, ft⟩ 97 x = some ⟨who, dn, ct, ms, fs⟩ from by show (setL ft 2 x).map _ = _; rw [hs]; rfl)
      clear hs
      go_wp2_with fail
      go_ret
      exact Or.inr ⟨⟨who, dn, ct, ms, fs⟩, B1, B2, B3, B4, n1, n2, n3, n4, c1, c2, c3, c4, HP.out, ⟨by omega, by omega, by omega, by omega⟩, ⟨N1, N2, N3, hl⟩, rfl, s2⟩
  have z97 : (r == 97) = false := beq_eq_false_iff_ne.2 r97
  have HP := Lib.hid (show putI ⟨who, dn, ct, ms, ft⟩ r x = none from by unfold putI; rw [if_neg r116, if_neg r115, if_neg r43, if_neg r47, if_neg r33, if_neg r61, if_neg r100, if_neg r97])
  have s3 := Lib.hid H
  clear H
  go_enter Tryd.func36, Tryd.ntmps36
  go_wp2_with fail
  go_ret
  exact Or.inl ⟨HP.out, rfl, s3.out⟩
end Go.Proofs.YtlceanlenekanaaDoor
