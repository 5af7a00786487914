/- Layer 21: the document's command of a line. -/
import Derived.Test.YtgajcjacnnpfcaaDoorCalN
namespace Go.Proofs.YtgajcjacnnpfcaaDoor
open Go.RowKit
set_option linter.unusedVariables false
set_option maxRecDepth 100000
set_option maxHeartbeats 4000000
theorem mayN_val {l : List UInt8} (h : mayN l = true) : valB l ≤ 2147483647 := by
  unfold mayN at h
  simp only [Bool.and_eq_true, decide_eq_true_eq] at h
  exact h.2
/-- The numbers of a row of words. -/
def numsI (r : List (List UInt8)) : List Int := (r.map valB).map Int.ofNat
theorem numsI_len (r : List (List UInt8)) : (numsI r).length = r.length := by unfold numsI; rw [List.length_map, List.length_map]
theorem numsI_snoc (r : List (List UInt8)) (u : List UInt8) : numsI (r ++ [u]) = numsI r ++ [Int.ofNat (valB u)] := by unfold numsI; rw [List.map_append, List.map_append]; rfl
theorem numsI_in {r : List (List UInt8)} (h : r.all mayN = true) : ∀ x ∈ numsI r, 0 ≤ x ∧ x ≤ 2147483647 := fun x hx => by
  obtain ⟨k, hk, rfl⟩ := List.mem_map.1 hx
  obtain ⟨u, hu, rfl⟩ := List.mem_map.1 hk
  have := mayN_val (List.all_eq_true.1 h u hu)
  exact ⟨Int.natCast_nonneg _, by show ((valB u : Nat) : Int) ≤ _; omega⟩
theorem mayC_nums {n : List UInt8} {r : List (List UInt8)} (h : r.all mayN = true) : mayC n (numsI r) = decide (nm n = some r.length) := by
  rw [mayC_alt, numsI_len, show (numsI r).all inN = true from List.all_eq_true.2 fun x hx => decide_eq_true (numsI_in h x hx)]; rfl
theorem rparse_o (s : ByteArray) (w : World) (hs : s.size ≤ 90000) : Calls Tryd.prog 10 #[.string s] w fun e w' => ∃ B c, e = .returned (.tuple #[.agg #[.string ⟨(pN (parseB (wordsB s.data.toList))).toArray⟩, .slice B (pX (parseB (wordsB s.data.toList))).length c], .int .i64 (pC (parseB (wordsB s.data.toList)))]) ∧ St w None w' [LisR 3 1 (.slice B (pX (parseB (wordsB s.data.toList))).length c) (pX (parseB (wordsB s.data.toList))).length (ivI (pX (parseB (wordsB s.data.toList))))] := by
  obtain ⟨iI, hiI, hzI, hsI, hbI⟩ := info3c YtgajcjacnnpfcaaDooriI
  have hwl := words_len s
  obtain ⟨us, hus⟩ : ∃ us, wordsB s.data.toList = us := ⟨_, rfl⟩
  have KW := Lib.hid (fun w => rwords_o s w (by omega))
  rw [hus] at KW hwl ⊢
  clear hus
  obtain ⟨N, hN⟩ : ∃ N, us.length = N := ⟨_, rfl⟩
  rw [hN] at KW hwl
  have hb := (St.begin w).box 25 #[.string ⟨#[]⟩, .slice none 0 0]
  obtain ⟨a, ha⟩ : ∃ a, w.heap.size = a := ⟨_, rfl⟩
  obtain ⟨P, hP⟩ : ∃ P, parseB us = P := ⟨_, rfl⟩
  rw [hP]
  rw [ha] at hb
  have HB := Lib.hid hb
  clear hb
  go_enter Tryd.func10, Tryd.ntmps10
  go_wp2_with fail
  refine (KW.out _).mono ?_
  rintro e w2 ⟨B, c, rfl, k2⟩
  have s2 : St w None w2 [_, _] := HB.out.join k2
  obtain ⟨r2, n2, m2, _⟩ := s2.rdc 1 rfl
  obtain ⟨a0, a1⟩ := (s2.blk 0 rfl).two
  have fa := (s2.blk 0 rfl).frozen
  have S2 := Lib.hid s2
  clear s2 k2 KW HB
  cases us with
  | nil =>
    obtain rfl : N = 0 := hN.symm
    obtain rfl : P = none := hP.symm
    go_wp2_with fail
    (try simp only [Exit.inBlock, Exit.then])
    have s5 := (S2.out.set_ 0 rfl 0 (.string ⟨#[]⟩)).set_ 0 rfl 1 (.slice none 0 0)
    have s6 := (s5.take 0).lis_nil 3 1
    refine bodyPost_ret (v := .tuple #[.agg #[.string ⟨#[]⟩, .slice none 0 0], .int .i64 9]) ?_ rfl ⟨none, 0, rfl, s6⟩
    obtain ⟨q0, q1⟩ := (s5.blk 0 rfl).two
    simp [results, go_sem, q0, q1]
  | cons n0 r =>
    obtain ⟨m, rfl⟩ : ∃ m, N = m + 1 := ⟨r.length, by rw [← hN]; rfl⟩
    have hr : r.length = m := by rw [List.length_cons] at hN; omega
    have y0 : (((m + 1 : Nat) : Int) == 0) = false := beq_eq_false_iff_ne.2 (by omega)
    have y00 : ((m : Int) + 1 == 0) = false := beq_eq_false_iff_ne.2 (by omega)
    obtain ⟨g, o, rfl, hg, c0⟩ := r2.strs 0 n0 rfl
    rw [Nat.add_zero] at c0
    have HR := Lib.hid (fun (wr : World) (rr : RdC wr (some ⟨g, o, none⟩) (stVs (n0 :: r))) (i : Nat) (u : List UInt8) (h : r[i]? = some u) => show wr.cell? ⟨g, o + (i + 1), none⟩ = some (.string ⟨u.toArray⟩) from by
      obtain ⟨g', o', e, _, h2⟩ := rr.strs (i + 1) u (by rw [List.getElem?_cons_succ]; exact h)
      injection e with e; injection e with e1 e2; subst e1; subst e2
      exact h2)
    unfold maxLen at m2
    have s5 := S2.out.box 25 #[.string ⟨n0.toArray⟩, .slice none 0 0]
    obtain ⟨d, hd⟩ : ∃ d, w2.heap.size = d := ⟨_, rfl⟩
    rw [hd] at s5
    have S5 := Lib.hid (s5.lis_nil 3 1)
    have HP := Lib.hid hP
    clear r2 s5 hP
    go_wp2_with fail
    go_loopw [6, 7, 8] (fun x6 _ _ wr => ∃ (i c' : Nat) (B' : Option Addr), i ≤ m ∧ x6 = .int .i64 (((i + 1 : Nat)) : Int) ∧ (r.take i).all mayN = true ∧ St w None wr [BlkR a 25 #[.string ⟨#[]⟩, .slice none 0 0], LisR 9 1 (.slice (some ⟨g, o, none⟩) (m + 1) c) (m + 1) (stVs (n0 :: r)), BlkR d 25 #[.string ⟨n0.toArray⟩, .slice B' i c'], LisR 3 1 (.slice B' i c') i (ivI (numsI (r.take i)))]) (fun x6 _ _ _ => m + 1 - (intOf x6).toNat)
    case atStart => exact ⟨0, 0, none, Nat.zero_le _, rfl, rfl, S5.out⟩
    case round =>
    obtain ⟨i, c', B', hi, rfl, had, hst⟩ := hrel
    obtain ⟨d0, d1⟩ := (hst.blk 2 rfl).two
    have fd := (hst.blk 2 rfl).frozen 1
    obtain ⟨b0, b1⟩ := (hst.blk 0 rfl).two
    have fb := (hst.blk 0 rfl).frozen
    have HD := Lib.hid had
    clear had a0 a1 fa c0
    by_cases hlt : i < m
    · have z1 : decide ((((i + 1 : Nat)) : Int) < ((m + 1 : Nat) : Int)) = true := decide_eq_true (by omega)
      have z2 : decide ((i : Int) + 1 < (m : Int) + 1) = true := decide_eq_true (by omega)
      have z3 : decide ((i : Int) < (m : Int)) = true := decide_eq_true (by omega)
      obtain ⟨u, hu⟩ : ∃ u, r[i]? = some u := ⟨r[i]'(by omega), List.getElem?_eq_getElem _⟩
      have c1 := HR.out wr (hst.rdc 1 rfl).1 i u hu
      have KN := Lib.hid (rnumber_o ⟨u.toArray⟩ wr)
      cases hm : mayN u with
      | true =>
        have hv : numV (⟨u.toArray⟩ : ByteArray).data.toList = .tuple #[.int .i64 ((valB u : Nat) : Int), .bool true] := numV_yes hm
        rw [hv] at KN
        have H2 := Lib.hid (allN_more hu hm HD.out)
        have HX2 := Lib.hid (show numsI (r.take (i + 1)) = numsI (r.take i) ++ [((valB u : Nat) : Int)] by rw [take_snoc hu, numsI_snoc]; rfl)
        have hle := mayN_val hm
        obtain ⟨x, hx⟩ : ∃ x : Int, ((valB u : Nat) : Int) = x := ⟨_, rfl⟩
        rw [hx] at KN HX2
        have e1 := cell_alloc d1 (.cells #[.int .i64 x] 3)
        have S3' := Lib.hid (hst.alloc (.cells #[.int .i64 x] 3))
        have R3 := Lib.hid (rds_box wr 3 (.int .i64 x))
        clear hst hu hx hm hv hle
        go_wp2_with (first | (go_at_call 12; refine KN.out.mono ?_; rintro e w7 ⟨rfl, rfl⟩) | (at_builtin; refine wpList_lis rfl (.tmp 37) (.tmp 39) 23 rfl 3 iI (.int .i64 0) 1 8 Tryd.underlying23 hiI hzI hsI hbI rfl (by decide) (.slice B' i c') i (ivI (numsI (r.take i))) rfl (S3'.out.lis 3 rfl) _ 1 1 [.int .i64 x] rfl R3.out (by simp [Value.oneCell']) (by unfold maxLen; omega) (by omega) ?_; intro B5 c5 w5 hl hg hat; have s5 := S3'.out.lis_put 3 rfl hl hg hat; have f5 := (s5.blk 2 rfl).frozen 1; have q5 := (s5.blk 2 rfl).two.2; have S7 := Lib.hid s5; clear s5 hl hg hat) | fail)
        have X6 := Lib.hid (S7.out.set_ 2 rfl 1 (.slice B5 (i + 1) c5))
        clear S7
        go_roundw
        case rel => exact ⟨i + 1, _, _, by omega, by go_num, H2.out, by rw [HX2.out, ivI_snoc]; exact X6.out⟩
        case measure => simp [intOf]; omega
      | false =>
        have hv : numV (⟨u.toArray⟩ : ByteArray).data.toList = .tuple #[.int .i64 0, .bool false] := numV_no hm
        rw [hv] at KN
        have hnone : P = none := by
          rw [← HP.out, parseB_cons, if_neg (fun h => allN_none hu hm h.1)]
        have HNO := Lib.hid hnone
        clear hv hm hu hnone
        go_wp2_with (go_at_call 12; refine KN.out.mono ?_; rintro e w7 ⟨rfl, rfl⟩)
        (try simp only [Exit.inBlock, Exit.then])
        have s5 := (hst.set_ 0 rfl 0 (.string ⟨#[]⟩)).set_ 0 rfl 1 (.slice none 0 0)
        have s6 := (s5.take 0).lis_nil 3 1
        refine bodyPost_ret (v := .tuple #[.agg #[.string ⟨#[]⟩, .slice none 0 0], .int .i64 9]) ?_ rfl ⟨none, 0, by rw [HNO.out]; rfl, by rw [HNO.out]; exact s6⟩
        obtain ⟨q0, q1⟩ := (s5.blk 0 rfl).two
        simp [results, go_sem, q0, q1]
    obtain rfl : i = m := by omega
    have z1 : decide ((((i + 1 : Nat)) : Int) < ((i + 1 : Nat) : Int)) = false := decide_eq_false (by omega)
    have z2 : decide ((i : Int) + 1 < (i : Int) + 1) = false := decide_eq_false (by omega)
    have hall : r.all mayN = true := by have := HD.out; rw [List.take_of_length_le (by omega)] at this; exact this
    rw [List.take_of_length_le (by omega)] at hst
    have hir := (hst.rdc 3 rfl).1.ints
    have KM := Lib.hid (rmay_o ⟨n0.toArray⟩ B' i c' (numsI r) wr (by rw [numsI_len]; exact hr) (by omega) (fun x hx => by have := numsI_in hall x hx; omega) hir)
    rw [show (⟨n0.toArray⟩ : ByteArray).data.toList = n0 from rfl, mayC_nums hall] at KM
    have HA := Lib.hid hall
    clear hall hir
    by_cases hnm : nm n0 = some r.length
    · rw [decide_eq_true hnm] at KM
      have hsome : P = some (n0, r.map valB) := by rw [← HP.out, parseB_cons, if_pos ⟨HA.out, hnm⟩]
      have HSO := Lib.hid hsome
      have HS := Lib.hid hst
      clear hnm hsome hst
      go_wp2_with (go_at_call 22; refine KM.out.mono ?_; rintro e w7 ⟨rfl, hb7⟩; have s7 := HS.out.stay hb7; obtain ⟨d0, d1⟩ := (s7.blk 2 rfl).two; obtain ⟨b0, b1⟩ := (s7.blk 0 rfl).two; have fb := (s7.blk 0 rfl).frozen; replace s7 := Lib.hid s7; clear hb7)
      (try simp only [Exit.inBlock, Exit.then])
      have s5 := (s7.out.set_ 0 rfl 0 (.string ⟨n0.toArray⟩)).set_ 0 rfl 1 (.slice B' i c')
      have hl : (pX (some (n0, r.map valB))).length = i := (numsI_len r).trans hr
      refine bodyPost_ret (v := .tuple #[.agg #[.string ⟨n0.toArray⟩, .slice B' i c'], .int .i64 0]) ?_ rfl ⟨B', c', by rw [HSO.out, hl]; rfl, by rw [HSO.out, hl]; exact s5.only 3 rfl⟩
      obtain ⟨q0, q1⟩ := (s5.blk 0 rfl).two
      simp [results, go_sem, q0, q1]
    · rw [decide_eq_false hnm] at KM
      have hnone : P = none := by rw [← HP.out, parseB_cons, if_neg (fun h => hnm h.2)]
      have HNO := Lib.hid hnone
      have HS := Lib.hid hst
      clear hnm hnone hst
      go_wp2_with (go_at_call 22; refine KM.out.mono ?_; rintro e w7 ⟨rfl, hb7⟩; have s7 := HS.out.stay hb7; obtain ⟨d0, d1⟩ := (s7.blk 2 rfl).two; obtain ⟨b0, b1⟩ := (s7.blk 0 rfl).two; have fb := (s7.blk 0 rfl).frozen; replace s7 := Lib.hid s7; clear hb7)
      (try simp only [Exit.inBlock, Exit.then])
      have s5 := (s7.out.set_ 0 rfl 0 (.string ⟨#[]⟩)).set_ 0 rfl 1 (.slice none 0 0)
      have s6 := (s5.take 0).lis_nil 3 1
      refine bodyPost_ret (v := .tuple #[.agg #[.string ⟨#[]⟩, .slice none 0 0], .int .i64 9]) ?_ rfl ⟨none, 0, by rw [HNO.out]; rfl, by rw [HNO.out]; exact s6⟩
      obtain ⟨q0, q1⟩ := (s5.blk 0 rfl).two
      simp [results, go_sem, q0, q1]
end Go.Proofs.YtgajcjacnnpfcaaDoor
