/- Layer 21: the first look. -/
import Derived.Test.YtgajcjacnnpfcaaDoorCalS
namespace Go.Proofs.YtgajcjacnnpfcaaDoor
open Go.RowKit
set_option linter.unusedVariables false
set_option maxRecDepth 100000
set_option maxHeartbeats 4000000
theorem TabB.up {B B' : Nat} {w : World} (h : TabB B w) (hB : B ≤ B') : TabB B' w := fun w' hb => h w' (hb.mono hB)
theorem aw_p1 : parseB (wordsB [32, 116, 105, 99, 107, 32, 32, 53, 32]) = some ([116, 105, 99, 107], [5]) := by decide
theorem aw_p2 : parseB (wordsB [116, 105, 99, 107, 32, 48, 53]) = none := by decide
theorem aw_p3 : parseB (wordsB []) = none := by decide
theorem aw_w : wordsB [97, 32, 98] = [[97], [98]] := by decide
theorem aw_n : nm [115, 117, 98, 109, 105, 116] = some 7 := by decide
theorem aw_t : textO [116, 105, 99, 107] [5] = [116, 105, 99, 107, 32, 53] := by
  unfold textO
  rw [if_pos (by decide)]
  unfold textB
  rw [show ([5] : List Int).map Int.toNat = [5] from rfl, List.flatMap_cons, List.flatMap_nil, digs_small (by decide)]
  decide
theorem parse_some {s : ByteArray} {nb : List UInt8} {ns : List Nat} {xs : List Int} {k : Nat} (hs : s.size ≤ 90000) (h : parseB (wordsB s.data.toList) = some (nb, ns)) (hx : ns.map Int.ofNat = xs) (hk : xs.length = k) (w : World) :
    Calls Tryd.prog 9 #[.string s] w fun e w' => ∃ B c, e = .returned (.tuple #[.agg #[.string ⟨nb.toArray⟩, .slice B k c], .int .i64 0]) ∧ St w None w' [LisR 3 1 (.slice B k c) k (ivI xs)] := by
  subst hx; subst hk
  have := parse_o s w (by omega)
  rw [h] at this; exact this
theorem parse_none {s : ByteArray} (hs : s.size ≤ 90000) (h : parseB (wordsB s.data.toList) = none) (w : World) :
    Calls Tryd.prog 9 #[.string s] w fun e w' => ∃ B c, e = .returned (.tuple #[.agg #[.string ⟨#[]⟩, .slice B 0 c], .int .i64 9]) ∧ St w None w' [LisR 3 1 (.slice B 0 c) 0 (ivI [])] := by
  have := parse_o s w (by omega)
  rw [h] at this; exact this
theorem rparse_some {s : ByteArray} {nb : List UInt8} {ns : List Nat} {xs : List Int} {k : Nat} (hs : s.size ≤ 90000) (h : parseB (wordsB s.data.toList) = some (nb, ns)) (hx : ns.map Int.ofNat = xs) (hk : xs.length = k) (w : World) :
    Calls Tryd.prog 10 #[.string s] w fun e w' => ∃ B c, e = .returned (.tuple #[.agg #[.string ⟨nb.toArray⟩, .slice B k c], .int .i64 0]) ∧ St w None w' [LisR 3 1 (.slice B k c) k (ivI xs)] := by
  subst hx; subst hk
  have := rparse_o s w (by omega)
  rw [h] at this; exact this
theorem rparse_none {s : ByteArray} (hs : s.size ≤ 90000) (h : parseB (wordsB s.data.toList) = none) (w : World) :
    Calls Tryd.prog 10 #[.string s] w fun e w' => ∃ B c, e = .returned (.tuple #[.agg #[.string ⟨#[]⟩, .slice B 0 c], .int .i64 9]) ∧ St w None w' [LisR 3 1 (.slice B 0 c) 0 (ivI [])] := by
  have := rparse_o s w (by omega)
  rw [h] at this; exact this
theorem awake_c (w : World) (hT : TabB w.heap.size w) : Calls Tryd.prog 8 #[] w fun e w' => e = .returned (.bool true) ∧ Below w.heap.size w w' := by
  have HT := Lib.hid hT
  clear hT
  have K1 := Lib.hid (fun w => parse_some (s := ⟨#[32, 116, 105, 99, 107, 32, 32, 53, 32]⟩) (xs := [5]) (k := 1) (by decide) aw_p1 rfl rfl w)
  have K2 := Lib.hid (fun w => parse_none (s := ⟨#[116, 105, 99, 107, 32, 48, 53]⟩) (by decide) aw_p2 w)
  have K3 := Lib.hid (fun w => parse_none (s := ⟨#[]⟩) (by decide) aw_p3 w)
  have K4 := Lib.hid (fun w => nums_o ⟨#[115, 117, 98, 109, 105, 116]⟩ w)
  rw [show (⟨#[115, 117, 98, 109, 105, 116]⟩ : ByteArray).data.toList = [115, 117, 98, 109, 105, 116] from rfl] at K4
  unfold numsV at K4
  rw [aw_n] at K4
  have K5 := Lib.hid (fun w => words_o ⟨#[97, 32, 98]⟩ w (by decide))
  rw [show (⟨#[97, 32, 98]⟩ : ByteArray).data.toList = [97, 32, 98] from rfl, aw_w] at K5
  go_enter Tryd.func8, Tryd.ntmps8
  go_wp2_with fail
  refine (K1.out _).mono ?_
  rintro e w1 ⟨B1, c1, rfl, k1⟩
  have s1 := k1.box 25 #[.string ⟨#[116, 105, 99, 107]⟩, .slice B1 1 c1]
  obtain ⟨a1, ha1⟩ : ∃ a, w1.heap.size = a := ⟨_, rfl⟩
  rw [ha1] at s1
  have S1 := Lib.hid s1
  clear s1
  go_wp2_with fail
  refine (K2.out _).mono ?_
  rintro e w2 ⟨B2, c2, rfl, k2⟩
  have s2 := (S1.out.stay k2.below).box 25 #[.string ⟨#[]⟩, .slice B2 0 c2]
  have S2 := Lib.hid s2
  clear s2
  go_wp2_with fail
  refine (K3.out _).mono ?_
  rintro e w3 ⟨B3, c3, rfl, k3⟩
  have s3 := (S2.out.stay k3.below).box 25 #[.string ⟨#[]⟩, .slice B3 0 c3]
  have S3 := Lib.hid s3
  clear s3
  go_wp2_with fail
  refine (K4.out _).mono ?_
  rintro e w4 ⟨rfl, rfl⟩
  obtain ⟨p0, p1⟩ := (S3.out.blk 1 rfl).two
  obtain ⟨r1, r2, r3, _⟩ := S3.out.rdc 0 rfl
  obtain ⟨g, o, rfl, hg, c0⟩ := r1.ints 0 5 rfl
  rw [Nat.add_zero] at c0
  have HR := Lib.hid (show RdI _ (some ⟨g, o, none⟩) [5] from r1.ints)
  have KT := Lib.hid (text_o [116, 105, 99, 107] (some ⟨g, o, none⟩) 1 c1 [5] _ rfl (by decide) (by decide) (fun x hx => by rw [List.mem_singleton.1 hx]; decide) HR.out (HT.out.at_ (Nat.le_refl _) S3.out.below |>.up S3.out.size))
  rw [aw_t] at KT
  unfold stV at KT
  go_wp2_with (first | (go_at_call 19; refine KT.out.mono ?_; rintro e w5 ⟨rfl, hb5⟩) | (go_at_call 16; refine (K5.out _).mono ?_; rintro e w6 ⟨B6, c6, rfl, k6⟩))
  go_ret
  exact ⟨rfl, ((S3.out.stay hb5).stay k6.below).below⟩
end Go.Proofs.YtgajcjacnnpfcaaDoor
