/- Layer 21: the program's command as a line. -/
import Derived.Test.YtgajcjacnnpfcaaDoorCalR
namespace Go.Proofs.YtgajcjacnnpfcaaDoor
open Go.RowKit
set_option linter.unusedVariables false
set_option maxRecDepth 100000
set_option maxHeartbeats 4000000
theorem text_o (nb : List UInt8) (A : Option Addr) (n c : Nat) (xs : List Int) (w : World) (hn : xs.length = n) (hn2 : n ≤ 1000) (hnb : nb.length ≤ 1000) (hx : ∀ x ∈ xs, -9223372036854775808 ≤ x ∧ x ≤ 9223372036854775807) (hA : RdI w A xs) (hT : TabB w.heap.size w) :
    Calls Tryd.prog 19 #[.agg #[.string ⟨nb.toArray⟩, .slice A n c]] w fun e w' => e = .returned (stV (textO nb xs)) ∧ Below w.heap.size w w' := by
  obtain ⟨iS, hiS, hzS, hsS, hbS⟩ := info3c YtgajcjacnnpfcaaDooriS
  have hb := (St.begin w).box 25 #[.string ⟨nb.toArray⟩, .slice A n c]
  have hA1 := hA.on ((Below.refl w.heap.size w).alloc (Nat.le_refl _) (.cells #[.string ⟨nb.toArray⟩, .slice A n c] 25))
  have KM := Lib.hid (may_o ⟨nb.toArray⟩ A n c xs (w.alloc (.cells #[.string ⟨nb.toArray⟩, .slice A n c] 25)) hn (by omega) hx hA1)
  rw [show (⟨nb.toArray⟩ : ByteArray).data.toList = nb from rfl] at KM
  have HT0 := Lib.hid hT
  have HA0 := Lib.hid hA
  obtain ⟨a, ha⟩ : ∃ a, w.heap.size = a := ⟨_, rfl⟩
  rw [ha] at hb
  obtain ⟨p0, p1⟩ := (hb.blk 0 rfl).two
  have HB := Lib.hid hb
  have HA1 := Lib.hid hA1
  clear hb hA1 hT
  cases hm : mayC nb xs with
  | false =>
    rw [hm] at KM
    have HT := Lib.hid (show textO nb xs = [] from if_neg (by rw [hm]; exact Bool.false_ne_true))
    clear hm
    go_enter Tryd.func19, Tryd.ntmps19
    go_wp2_with (go_at_call 21; refine KM.out.mono ?_; rintro e w2 ⟨rfl, hb2⟩)
    go_ret
    exact ⟨by rw [HT.out]; rfl, (HB.out.stay hb2).below⟩
  | true =>
    rw [hm] at KM
    obtain ⟨hin, _⟩ := mayC_in hm
    have HT := Lib.hid (show textO nb xs = textB nb (xs.map Int.toNat) from if_pos hm)
    have HI := Lib.hid hin
    clear hm hin
    go_enter Tryd.func19, Tryd.ntmps19
    go_wp2_with (go_at_call 21; refine KM.out.mono ?_; rintro e w2 ⟨rfl, hb2⟩; have S2 := Lib.hid (HB.out.stay hb2); have HA2 := Lib.hid (HA1.out.on hb2); obtain ⟨p0, p1⟩ := (S2.out.blk 0 rfl).two; have S3 := Lib.hid (S2.out.lis_new 9 1 1 #[.string ⟨nb.toArray⟩] rfl (by unfold maxLen; omega)); have q0 := cell_alloc p0 (.cells #[.string ⟨nb.toArray⟩] 9); have q1 := cell_alloc p1 (.cells #[.string ⟨nb.toArray⟩] 9); clear hb2)
    go_loopw [3, 5, 15] (fun x3 _ x15 wr => ∃ (i c' : Nat) (B : Option Addr), i ≤ n ∧ x3 = .slice B (i + 1) c' ∧ x15 = .int .i64 (i : Int) ∧ St w None wr [BlkR a 25 #[.string ⟨nb.toArray⟩, .slice A n c], LisR 9 1 (.slice B (i + 1) c') (i + 1) (stVs (nb :: ((xs.take i).map Int.toNat).map digs))]) (fun _ _ x15 _ => n - (intOf x15).toNat)
    case atStart => exact ⟨0, 1, _, Nat.zero_le _, rfl, rfl, S3.out⟩
    case round =>
    obtain ⟨i, c', B, hi, rfl, rfl, hst⟩ := hrel
    have hrd := HA0.out.on hst.below
    clear p0 p1 q0 q1
    by_cases hlt : i < n
    · have z1 : decide ((i : Int) < (n : Int)) = true := decide_eq_true (by omega)
      obtain ⟨x, hxi⟩ : ∃ x, xs[i]? = some x := ⟨xs[i]'(by omega), List.getElem?_eq_getElem _⟩
      obtain ⟨g, o, rfl, l1, c1⟩ := hrd i x hxi
      obtain ⟨b1, b2⟩ := HI.out x (List.mem_of_getElem? hxi)
      have HX := Lib.hid (show stVs (nb :: ((xs.take (i + 1)).map Int.toNat).map digs) = stVs (nb :: ((xs.take i).map Int.toNat).map digs) ++ [stV (digs x.toNat)] by
        rw [take_snoc hxi, List.map_append, List.map_append]
        exact stVs_snoc (nb :: ((xs.take i).map Int.toNat).map digs) (digs x.toNat))
      have KD := Lib.hid (itoa_o x b1 (by omega) wr (HT0.out.at_ (by omega) hst.below).here)
      have HS := Lib.hid hst
      clear hrd hst hxi
      obtain ⟨u, hu⟩ : ∃ u, digs x.toNat = u := ⟨_, rfl⟩
      rw [hu] at KD HX
      clear hu
      go_wp2_with (first | (go_at_call 27; refine KD.out.mono ?_; unfold stV; rintro e w5 ⟨rfl, hb5⟩; have S5 := HS.out.stay hb5; have RB := Lib.hid (rds_box w5 9 (.string ⟨u.toArray⟩)); have S6 := S5.alloc (.cells #[.string ⟨u.toArray⟩] 9); have HL := Lib.hid (S6.lis 1 rfl); replace S5 := Lib.hid S5; replace S6 := Lib.hid S6; clear hb5) | (at_builtin; refine wpList_lis rfl (.tmp 19) (.tmp 22) 32 rfl 9 iS (.string ⟨#[]⟩) 1 16 Tryd.underlying32 hiS hzS hsS hbS rfl (by decide) _ _ _ rfl HL.out _ 1 1 [.string ⟨u.toArray⟩] rfl RB.out (by simp [Value.oneCell']) (by unfold maxLen; omega) (by omega) ?_; intro B' c'' w7 hl6 hg6 hat6; have S7 := Lib.hid (S6.out.lis_put 1 rfl hl6 hg6 hat6); clear hl6 hg6 hat6) | fail)
      go_roundw
      case rel => exact ⟨i + 1, c'', B', by omega, rfl, by go_num, by rw [HX.out]; exact S7.out⟩
      case measure => simp [intOf]; omega
    obtain rfl : i = n := by omega
    have z1 : decide ((i : Int) < (i : Int)) = false := decide_eq_false (by omega)
    have e1 : xs.take i = xs := List.take_of_length_le (by omega)
    rw [e1] at hst
    obtain ⟨r1, r2, r3, _⟩ := hst.rdc 1 rfl
    have hj := join_text nb (xs.map Int.toNat)
    have tl := textB_len nb (xs.map Int.toNat) (fun y hy => by
      obtain ⟨z, hz, rfl⟩ := List.mem_map.1 hy
      have := HI.out z hz
      omega)
    rw [List.length_map] at tl
    have KJ := Lib.hid (join_o B (nb :: (xs.map Int.toNat).map digs) (i + 1) c' wr (by rw [List.length_cons, List.length_map, List.length_map]; omega) (by omega) (by omega) r2 r1.strs (by rw [hj]; omega))
    rw [hj, ← HT.out] at KJ
    have HS := Lib.hid hst
    clear hj tl r1 e1 hst
    go_wp2_with (go_at_call 28; refine KJ.out.mono ?_; unfold stV; rintro e w5 ⟨rfl, hb5⟩)
    go_ret
    exact ⟨rfl, (HS.out.stay hb5).below⟩
end Go.Proofs.YtgajcjacnnpfcaaDoor
