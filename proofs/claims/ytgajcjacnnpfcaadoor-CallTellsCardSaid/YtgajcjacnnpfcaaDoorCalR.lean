/- Layer 21: a command as a line. -/
import Derived.Test.YtgajcjacnnpfcaaDoorCalQ
namespace Go.Proofs.YtgajcjacnnpfcaaDoor
open Go.RowKit
set_option linter.unusedVariables false
set_option maxRecDepth 100000
set_option maxHeartbeats 4000000
theorem two_add (t : List UInt8) (u : List UInt8) : Value.string ((⟨t.toArray⟩ : ByteArray) ++ (⟨#[32]⟩ : ByteArray) ++ (⟨u.toArray⟩ : ByteArray)) = stV (t ++ 32 :: u) := by
  unfold stV
  congr 1
  apply WideShapes.bytes_inj
  rw [ByteArray.data_append, Array.toList_append, ByteArray.data_append, Array.toList_append]
  simp
theorem rtext_o (nb : List UInt8) (A : Option Addr) (n c : Nat) (xs : List Int) (w : World) (hn : xs.length = n) (hn2 : n ≤ 1000) (hnb : nb.length ≤ 1000) (hx : ∀ x ∈ xs, -9223372036854775808 ≤ x ∧ x ≤ 9223372036854775807) (hA : RdI w A xs) :
    Calls Tryd.prog 20 #[.agg #[.string ⟨nb.toArray⟩, .slice A n c]] w fun e w' => e = .returned (stV (textO nb xs)) ∧ Below w.heap.size w w' := by
  have hb := (St.begin w).box 25 #[.string ⟨nb.toArray⟩, .slice A n c]
  have hA1 := hA.on ((Below.refl w.heap.size w).alloc (Nat.le_refl _) (.cells #[.string ⟨nb.toArray⟩, .slice A n c] 25))
  have KM := Lib.hid (rmay_o ⟨nb.toArray⟩ A n c xs (w.alloc (.cells #[.string ⟨nb.toArray⟩, .slice A n c] 25)) hn (by omega) hx hA1)
  rw [show (⟨nb.toArray⟩ : ByteArray).data.toList = nb from rfl] at KM
  obtain ⟨a, ha⟩ : ∃ a, w.heap.size = a := ⟨_, rfl⟩
  rw [ha] at hb
  obtain ⟨p0, p1⟩ := (hb.blk 0 rfl).two
  have HB := Lib.hid hb
  have HA1 := Lib.hid hA1
  clear hb hA1
  cases hm : mayC nb xs with
  | false =>
    rw [hm] at KM
    have HT := Lib.hid (show textO nb xs = [] from if_neg (by rw [hm]; exact Bool.false_ne_true))
    clear hm
    go_enter Tryd.func20, Tryd.ntmps20
    go_wp2_with (go_at_call 22; refine KM.out.mono ?_; rintro e w2 ⟨rfl, hb2⟩)
    go_ret
    exact ⟨by rw [HT.out]; rfl, (HB.out.stay hb2).below⟩
  | true =>
    rw [hm] at KM
    obtain ⟨hin, _⟩ := mayC_in hm
    have HT := Lib.hid (show textO nb xs = textB nb (xs.map Int.toNat) from if_pos hm)
    have HI := Lib.hid hin
    clear hm hin
    go_enter Tryd.func20, Tryd.ntmps20
    go_wp2_with (go_at_call 22; refine KM.out.mono ?_; rintro e w2 ⟨rfl, hb2⟩; have S2 := Lib.hid (HB.out.stay hb2); have HA2 := Lib.hid (HA1.out.on hb2); obtain ⟨p0, p1⟩ := (S2.out.blk 0 rfl).two; clear hb2)
    go_loopw [3, 4] (fun x3 x4 wr => ∃ i : Nat, i ≤ n ∧ x3 = stV (textB nb ((xs.take i).map Int.toNat)) ∧ x4 = .int .i64 (i : Int) ∧ RdI wr A xs ∧ St w None wr [BlkR a 25 #[.string ⟨nb.toArray⟩, .slice A n c]]) (fun _ x4 _ => n - (intOf x4).toNat)
    case atStart => exact ⟨0, Nat.zero_le _, by show Value.string _ = stV (textB nb []); unfold textB; rw [List.flatMap_nil, List.append_nil]; rfl, rfl, HA2.out, S2.out⟩
    case round =>
    obtain ⟨i, hi, rfl, rfl, hrd, hst⟩ := hrel
    obtain ⟨q0, q1⟩ := (hst.blk 0 rfl).two
    clear p0 p1
    by_cases hlt : i < n
    · have z1 : decide ((i : Int) < (n : Int)) = true := decide_eq_true (by omega)
      obtain ⟨x, hxi⟩ : ∃ x, xs[i]? = some x := ⟨xs[i]'(by omega), List.getElem?_eq_getElem _⟩
      obtain ⟨g, o, rfl, l1, c1⟩ := hrd i x hxi
      obtain ⟨b1, b2⟩ := HI.out x (List.mem_of_getElem? hxi)
      have HM := Lib.hid (textB_more nb xs i x hxi)
      obtain ⟨k, rfl⟩ : ∃ k : Nat, x = (k : Int) := ⟨x.toNat, by omega⟩
      rw [show ((k : Int)).toNat = k by omega] at HM
      have tl : (textB nb ((xs.take i).map Int.toNat)).length ≤ 20000 := by
        have := textB_len nb ((xs.take i).map Int.toNat) (fun y hy => by
          obtain ⟨z, hz, rfl⟩ := List.mem_map.1 hy
          have := HI.out z (List.mem_of_mem_take hz)
          omega)
        rw [List.length_map, List.length_take] at this
        omega
      obtain ⟨t, ht⟩ : ∃ t, textB nb ((xs.take i).map Int.toNat) = t := ⟨_, rfl⟩
      rw [ht] at HM tl ⊢
      have dl : (digs k).length ≤ 20 := digs_max 19 k (by omega)
      have KD := Lib.hid (rdigits_o k wr (by omega))
      have HA := Lib.hid (two_add t (digs k))
      have HRd := Lib.hid hrd
      have HS := Lib.hid hst
      clear hrd hst ht hxi
      unfold stV
      go_wp2_with (go_at_call 23; refine KD.out.mono ?_; unfold stV; rintro e w5 ⟨rfl, hb5⟩)
      go_roundw
      case rel => exact ⟨i + 1, by omega, by rw [HM.out]; exact HA.out, by go_num, HRd.out.on hb5, HS.out.stay hb5⟩
      case measure => simp [intOf]; omega
    obtain rfl : i = n := by omega
    have z1 : decide ((i : Int) < (i : Int)) = false := decide_eq_false (by omega)
    have H2 := Lib.hid (show textB nb ((xs.take i).map Int.toNat) = textO nb xs by rw [List.take_of_length_le (by omega), HT.out])
    rw [H2.out]
    unfold stV
    go_wp2
    go_ret
    exact ⟨rfl, hst.below⟩
end Go.Proofs.YtgajcjacnnpfcaaDoor
