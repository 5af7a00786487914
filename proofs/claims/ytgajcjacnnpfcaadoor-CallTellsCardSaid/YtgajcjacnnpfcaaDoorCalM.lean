/- Layer 21: the command of a line. -/
import Derived.Test.YtgajcjacnnpfcaaDoorCalL
import Derived.Deep.RegionLaw
namespace Go.Proofs.YtgajcjacnnpfcaaDoor
open Go.RowKit
set_option linter.unusedVariables false
set_option maxRecDepth 100000
set_option maxHeartbeats 4000000
theorem YtgajcjacnnpfcaaDooriI : (Tryd.prog.info? 3).map (fun i => (i.zero, i.size, i.bytes)) = some (some (.int .i64 0), 1, 8) := by kernel_rfl
/-- What a line's command is told as. -/
def pN : Option (List UInt8 × List Nat) → List UInt8
  | none => []
  | some p => p.1
def pX : Option (List UInt8 × List Nat) → List Int
  | none => []
  | some p => p.2.map Int.ofNat
def pC : Option (List UInt8 × List Nat) → Int
  | none => 9
  | some _ => 0
theorem St.rdc {w0 w : World} {S0 : Nat → Prop} {L : List Res} {e : TypeId} {B : Option Addr} {n c : Nat} {cs : List Value} (h : St w0 S0 w L) (i : Nat) (hi : L[i]? = some (LisR e 1 (.slice B n c) n cs)) : RdC w B cs ∧ n ≤ c ∧ c ≤ maxLen ∧ cs.length = n := by
  have hl := h.lis i hi
  obtain ⟨A, cap, ev, h1, h2, h3, h4⟩ := h.lis_cells i hi
  injection ev with e1 e2 e3
  subst e1; subst e3
  rw [Nat.mul_one] at h3
  refine ⟨fun j u hu => ?_, h1, h2, h3⟩
  rcases h4 with rfl | ⟨g, off, rfl, hc⟩
  · rw [List.length_eq_zero_iff.1 h3] at hu; cases hu
  · exact ⟨g, off, rfl, hl.lt rfl, hc j u hu⟩
theorem RdC.strs {w : World} {B : Option Addr} {us : List (List UInt8)} (h : RdC w B (stVs us)) : RdT w B us := fun i u hu => by
  obtain ⟨g, off, e, h1, h2⟩ := h i (stV u) (by unfold stVs; rw [List.getElem?_map, hu]; rfl)
  exact ⟨g, off, e, h1, h2⟩
theorem RdC.ints {w : World} {B : Option Addr} {xs : List Int} (h : RdC w B (ivI xs)) : RdI w B xs := fun i x hx => by
  obtain ⟨g, off, e, h1, h2⟩ := h i (.int .i64 x) (by unfold ivI; rw [List.getElem?_map, hx]; rfl)
  exact ⟨g, off, e, h1, h2⟩
theorem RdC.anys {w : World} {B : Option Addr} {us : List (List UInt8)} (h : RdC w B (anyVs us)) {i : Nat} {u : List UInt8} (hu : us[i]? = some u) : ∃ g off, B = some ⟨g, off, none⟩ ∧ g < w.heap.size ∧ w.cell? ⟨g, off + i, none⟩ = some (anyB u) := h i _ (anyVs_get hu)
theorem RdC.on {w w' : World} {B : Option Addr} {cs : List Value} (h : RdC w B cs) (hb : Below w.heap.size w w') : RdC w' B cs := fun i u hu => by
  obtain ⟨g, off, e, h1, h2⟩ := h i u hu
  refine ⟨g, off, e, Nat.lt_of_lt_of_le h1 hb.size, ?_⟩
  rw [← h2]
  exact World.cell?_of_block (w := w) (hb.block g h1)
theorem St.only {w0 w : World} {S0 : Nat → Prop} {L : List Res} {R : Res} (h : St w0 S0 w L) (i : Nat) (hi : L[i]? = some R) : St w0 S0 w [R] :=
  h.pick [i] [R] (by simp) (fun j hj => by rw [List.mem_singleton.1 hj]; exact (List.getElem?_eq_some_iff.1 hi).1) rfl fun k j hk => by
    cases k with
    | zero => simp at hk; subst hk; rw [hi]; rfl
    | succ k => simp at hk
theorem ivI_snoc (xs : List Int) (x : Int) : ivI (xs ++ [x]) = ivI xs ++ [.int .i64 x] := by unfold ivI; rw [List.map_append]; rfl
theorem parseB_is {us : List (List UInt8)} (h : (parseB us).isSome = true) : ∃ n r, us = n :: r ∧ r.all mayN = true ∧ nm n = some r.length ∧ parseB us = some (n, r.map valB) := by
  match us, h with
  | n :: r, h =>
    by_cases hc : r.all mayN = true ∧ nm n = some r.length
    · exact ⟨n, r, rfl, hc.1, hc.2, by rw [parseB_cons, if_pos hc]⟩
    · rw [parseB_cons, if_neg hc] at h; cases h
theorem words_len (s : ByteArray) : (wordsB s.data.toList).length ≤ s.size := by
  have := wcount s (pos := s.size) (Nat.le_refl _)
  rw [tk_size] at this
  rw [wfin]
  by_cases he : (wfold s.data.toList).2 = []
  · rw [if_pos he]; omega
  · rw [if_neg he]
    have := List.length_pos_iff.2 he
    rw [List.length_append]
    show _ + 1 ≤ _
    omega
theorem parse_o (s : ByteArray) (w : World) (hs : s.size ≤ 100000) : Calls Tryd.prog 9 #[.string s] w fun e w' => ∃ B c, e = .returned (.tuple #[.agg #[.string ⟨(pN (parseB (wordsB s.data.toList))).toArray⟩, .slice B (pX (parseB (wordsB s.data.toList))).length c], .int .i64 (pC (parseB (wordsB s.data.toList)))]) ∧ St w None w' [LisR 3 1 (.slice B (pX (parseB (wordsB s.data.toList))).length c) (pX (parseB (wordsB s.data.toList))).length (ivI (pX (parseB (wordsB s.data.toList))))] := by
  obtain ⟨iI, hiI, hzI, hsI, hbI⟩ := info3c YtgajcjacnnpfcaaDooriI
  have hwl := words_len s
  obtain ⟨us, hus⟩ : ∃ us, wordsB s.data.toList = us := ⟨_, rfl⟩
  have KW := Lib.hid (fun w => words_o s w hs)
  rw [hus] at KW hwl ⊢
  clear hus
  obtain ⟨N, hN⟩ : ∃ N, us.length = N := ⟨_, rfl⟩
  rw [hN] at KW hwl
  have hb := (St.begin w).box 25 #[.string ⟨#[]⟩, .slice none 0 0]
  obtain ⟨a, ha⟩ : ∃ a, w.heap.size = a := ⟨_, rfl⟩
  obtain ⟨P, hP⟩ : ∃ P, parseB us = P := ⟨_, rfl⟩
  rw [hP]
  rw [ha] at hb
  have HB := Lib.hid hb
  clear hb
  go_enter Tryd.func9, Tryd.ntmps9
  go_wp2_with fail
  refine (KW.out _).mono ?_
  rintro e w2 ⟨B, c, rfl, k2⟩
  have s2 : St w None w2 [_, _] := HB.out.join k2
  obtain ⟨r2, n2, m2, _⟩ := s2.rdc 1 rfl
  have KV := Lib.hid (values_o B N c us w2 hN (by omega) r2.strs)
  have S2 := Lib.hid s2
  clear s2 r2 k2
  go_wp2_with fail
  refine KV.out.mono ?_
  rintro e w3 ⟨B3, c3, rfl, k3⟩
  have s3 : St w None w3 [_, _, _] := S2.out.join k3
  obtain ⟨r3, n3, m3, _⟩ := s3.rdc 2 rfl
  have KC := Lib.hid (isCommand_o B3 N c3 us w3 hN n3 m3 (by omega) r3)
  rw [hP] at KC
  have S3 := Lib.hid s3
  clear s3 k3 S2 KV n2 m2 KW
  obtain ⟨a0, a1⟩ := (S3.out.blk 0 rfl).two
  have fa := (S3.out.blk 0 rfl).frozen
  cases hq : P.isSome with
  | false =>
    obtain rfl : P = none := by cases P with | none => rfl | some x => cases hq
    go_wp2_with (go_at_call 25; refine KC.out.mono ?_; rintro e w4 ⟨rfl, hb4⟩; have S4 := Lib.hid (S3.out.stay hb4); have a0 := (S4.out.blk 0 rfl).two.1; have a1 := (S4.out.blk 0 rfl).two.2; have fa := (S4.out.blk 0 rfl).frozen; clear hb4)
    (try simp only [Exit.inBlock, Exit.then])
    have s5 := (S4.out.set_ 0 rfl 0 (.string ⟨#[]⟩)).set_ 0 rfl 1 (.slice none 0 0)
    have s6 := (s5.take 0).lis_nil 3 1
    refine bodyPost_ret (v := .tuple #[.agg #[.string ⟨#[]⟩, .slice none 0 0], .int .i64 9]) ?_ rfl ⟨none, 0, rfl, s6⟩
    obtain ⟨q0, q1⟩ := (s5.blk 0 rfl).two
    simp [results, go_sem, q0, q1]
  | true =>
    obtain ⟨n0, r, rfl, hall, hnm, hpe⟩ := parseB_is (us := us) (by rw [hP]; exact hq)
    rw [hP] at hpe
    subst hpe
    obtain ⟨m, rfl⟩ : ∃ m, N = m + 1 := ⟨r.length, by rw [← hN]; rfl⟩
    have hr : r.length = m := by rw [List.length_cons] at hN; omega
    have hm0 : mayN n0 = false := by
      cases e : mayN n0 with
      | false => rfl
      | true => rw [nm_none e] at hnm; cases hnm
    obtain ⟨g, o, rfl, hg, c0⟩ := r3.anys (i := 0) (u := n0) rfl
    rw [Nat.add_zero, anyB_no hm0] at c0
    unfold stV at c0
    have HR := Lib.hid (fun (wr : World) (rr : RdC wr (some ⟨g, o, none⟩) (anyVs (n0 :: r))) (i : Nat) (u : List UInt8) (h : r[i]? = some u) => show wr.cell? ⟨g, o + 1 + i, none⟩ = some (.iface 3 (.int .i64 (Int.ofNat (valB u)))) from by
      obtain ⟨g', o', e, _, h2⟩ := rr.anys (i := i + 1) (u := u) (by rw [List.getElem?_cons_succ]; exact h)
      injection e with e; injection e with e1 e2; subst e1; subst e2
      rw [show o + 1 + i = o + (i + 1) by omega, h2, anyB_yes (List.all_eq_true.1 hall u (List.mem_of_getElem? h))]; rfl)
    obtain ⟨A', hA', hRd⟩ : ∃ A', (if c3 = 1 then some ⟨g, o, none⟩ else some (⟨g, o + 1, none⟩ : Addr)) = A' ∧ (m = 0 ∨ A' = some ⟨g, o + 1, none⟩) := by
      by_cases h1 : c3 = 1
      · exact ⟨_, if_pos h1, Or.inl (by omega)⟩
      · exact ⟨_, if_neg h1, Or.inr rfl⟩
    have HC := Lib.hid KC.out
    unfold maxLen at m3
    clear hall hnm hP r3 KC hm0 hq
    go_wp2_with (go_at_call 25; refine HC.out.mono ?_; rintro e w4 ⟨rfl, hb4⟩; have S4 := Lib.hid (S3.out.stay hb4); have HB4 := Lib.hid hb4; rw [← World.cell?_of_block (w := w3) (w' := w4) (a := ⟨g, o, none⟩) (hb4.block g hg)] at c0; have s5 := S4.out.box 25 #[.string ⟨n0.toArray⟩, .slice none 0 0]; obtain ⟨d, hd⟩ : ∃ d, w4.heap.size = d := ⟨_, rfl⟩; rw [hd] at s5; have S5 := Lib.hid (s5.lis_nil 3 1); clear hb4 s5)
    have hlp : (pX (some (n0, r.map valB))).length = m := by show ((r.map valB).map Int.ofNat).length = m; rw [List.length_map, List.length_map]; exact hr
    have HX := Lib.hid (fun (i : Nat) (u : List UInt8) (h : r[i]? = some u) => show (pX (some (n0, r.map valB))).take (i + 1) = (pX (some (n0, r.map valB))).take i ++ [Int.ofNat (valB u)] from take_snoc (by show ((r.map valB).map Int.ofNat)[i]? = _; rw [List.getElem?_map, List.getElem?_map, h]; rfl))
    obtain ⟨X, hX⟩ : ∃ X, pX (some (n0, r.map valB)) = X := ⟨_, rfl⟩
    rw [hX] at HX hlp
    go_loopw [7, 23] (fun _ x23 wr => ∃ (i c' : Nat) (B' : Option Addr), i ≤ m ∧ x23 = .int .i64 (i : Int) ∧ St w None wr [BlkR a 25 #[.string ⟨#[]⟩, .slice none 0 0], LisR 9 1 (.slice B (m + 1) c) (m + 1) (stVs (n0 :: r)), LisR 20 1 (.slice (some ⟨g, o, none⟩) (m + 1) c3) (m + 1) (anyVs (n0 :: r)), BlkR d 25 #[.string ⟨n0.toArray⟩, .slice B' i c'], LisR 3 1 (.slice B' i c') i (ivI (X.take i))]) (fun _ x23 _ => m - (intOf x23).toNat)
    case atStart => exact ⟨0, 0, none, Nat.zero_le _, rfl, S5.out⟩
    case round =>
    obtain ⟨i, c', B', hi, rfl, hst⟩ := hrel
    obtain ⟨d0, d1⟩ := (hst.blk 3 rfl).two
    have fd := (hst.blk 3 rfl).frozen 1
    by_cases hlt : i < m
    · have z1 : decide ((i : Int) < (m : Int)) = true := decide_eq_true (by omega)
      obtain rfl : A' = some ⟨g, o + 1, none⟩ := hRd.resolve_left (by omega)
      obtain ⟨u, hu⟩ : ∃ u, r[i]? = some u := ⟨r[i]'(by omega), List.getElem?_eq_getElem _⟩
      have c1 := HR.out wr (hst.rdc 2 rfl).1 i u hu
      have HX2 := Lib.hid (HX.out i u hu)
      obtain ⟨x, hx⟩ : ∃ x, Int.ofNat (valB u) = x := ⟨_, rfl⟩
      rw [hx] at c1 HX2
      have e1 := cell_alloc d1 (.cells #[.int .i64 x] 3)
      have S3' := Lib.hid ((hst.alloc (.cells #[.int .i64 x] 3)).drew)
      have R3 := Lib.hid (show Rds ((wr.alloc (.cells #[.int .i64 x] 3)).drew) (some ⟨wr.heap.size, 0, none⟩) 1 1 [.int .i64 x] from rds_box wr 3 (.int .i64 x))
      clear hst hu hx hX
      go_wp2_with fail
      go_region_law (refine step_lis (by rfl) _ _ _ (by rfl) 3 iI (.int .i64 0) 1 8 Tryd.underlying23 hiI hzI hsI hbI (by rfl) (by omega) (.slice B' i c') i (ivI (X.take i)) (by rfl) (S3'.out.lis 4 rfl) _ 1 1 [.int .i64 x] (by rfl) R3.out (by simp [Value.oneCell']) (by unfold maxLen; omega) (by omega) ?_; intro B5 c5 w5 hl hg hat; have s5 := S3'.out.lis_put 4 rfl hl hg hat; have f5 := (s5.blk 3 rfl).frozen 1; have q5 := (s5.blk 3 rfl).two.2; have S7 := Lib.hid s5; clear s5 hl hg hat)
      all_goals
        have X6 := Lib.hid (S7.out.set_ 3 rfl 1 (.slice B5 (i + 1) c5))
        clear S7
        go_wp2_with fail
        go_roundw
        case rel => exact ⟨i + 1, _, _, by omega, by go_num, by rw [HX2.out, ivI_snoc]; exact X6.out⟩
        case measure => simp [intOf]; omega
    obtain rfl : i = m := by omega
    have z1 : decide ((i : Int) < (i : Int)) = false := decide_eq_false (by omega)
    obtain ⟨b0, b1⟩ := (hst.blk 0 rfl).two
    have fb := (hst.blk 0 rfl).frozen
    have s6 := (hst.set_ 0 rfl 0 (.string ⟨n0.toArray⟩)).set_ 0 rfl 1 (.slice B' i c')
    have s7 := s6.only 4 rfl
    rw [List.take_of_length_le (by omega)] at s7
    obtain ⟨q0, q1⟩ := (s6.blk 0 rfl).two
    have S7 := Lib.hid s7
    have Q := Lib.hid (And.intro q0 q1)
    clear s6 s7 hst q0 q1
    go_wp2_with fail
    (try simp only [Exit.inBlock, Exit.then])
    refine bodyPost_ret (v := .tuple #[.agg #[.string ⟨n0.toArray⟩, .slice B' i c'], .int .i64 0]) ?_ rfl ⟨B', c', by rw [hX, hlp]; rfl, by rw [hX, hlp]; exact S7.out⟩
    obtain ⟨q0, q1⟩ := Q.out
    simp [results, go_sem, q0, q1]
end Go.Proofs.YtgajcjacnnpfcaaDoor
