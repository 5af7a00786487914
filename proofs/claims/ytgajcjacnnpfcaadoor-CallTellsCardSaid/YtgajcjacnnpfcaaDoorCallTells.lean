/-
  For every command and every row of bytes CallTells answers true, and changes nothing: a command of a name of at most 100 bytes and at most 40 numbers is told as the document says, and is read again, with whatever blanks (at most 20 bytes ask for them) between. Condition: the tables that the row lists hold what the program's text lays in them.
-/
import Derived.Test.YtgajcjacnnpfcaaDoorRows
import Derived.Test.YtgajcjacnnpfcaaDoorFr
import Derived.Test.YtgajcjacnnpfcaaDoorFrL
import Derived.Test.YtgajcjacnnpfcaaDoorCards
import Derived.Test.YtgajcjacnnpfcaaDoorTie
import Derived.SevenTiedAt
import Derived.Test.YtgajcjacnnpfcaaDoorCalV
import Derived.Test.YtgajcjacnnpfcaaDoorOpS
import Derived.Deep.RegionHeld3
namespace Go.Proofs.YtgajcjacnnpfcaaDoor.callTells
open Go.ChangeShapes Go.WideShapes Go.ChangeAt Go.RowKit
set_option linter.unusedVariables false
theorem own : ownKnob Tryd.prog.godebug = none := by kernel_rfl
theorem laid : laidOutB Tryd.prog = true := by kernel_rfl
set_option maxHeartbeats 4000000
set_option maxRecDepth 100000
/-- The blanks that a byte asks for. -/
def bks (k : Nat) : List UInt8 := if k % 4 = 0 then [] else if k % 4 = 1 then [9] else if k % 4 = 2 then [10, 32] else [13]
theorem bks_bl (k : Nat) : ∀ b ∈ bks k, isBl b = true := by
  unfold bks
  split
  · intro b hb; cases hb
  · split
    · intro b hb; rw [List.mem_singleton.1 hb]; decide
    · split
      · intro b hb
        rcases List.mem_cons.1 hb with rfl | hb
        · decide
        · rw [List.mem_singleton.1 hb]; decide
      · intro b hb; rw [List.mem_singleton.1 hb]; decide
theorem bks_len (k : Nat) : (bks k).length ≤ 2 := by
  unfold bks
  split
  · decide
  · split
    · decide
    · split <;> decide
theorem cat_word (t u : List UInt8) : Value.string ((⟨t.toArray⟩ : ByteArray) ++ (⟨u.toArray⟩ : ByteArray) ++ (⟨#[32]⟩ : ByteArray)) = stV (t ++ (u ++ [32])) := by
  unfold stV
  congr 1
  apply WideShapes.bytes_inj
  rw [ByteArray.data_append, Array.toList_append, ByteArray.data_append, Array.toList_append, List.append_assoc]
theorem cat_word2 (t u v : List UInt8) : Value.string ((⟨t.toArray⟩ : ByteArray) ++ (⟨u.toArray⟩ : ByteArray) ++ (⟨#[32]⟩ : ByteArray) ++ (⟨v.toArray⟩ : ByteArray)) = stV (t ++ (u ++ 32 :: v)) := by
  unfold stV
  congr 1
  apply WideShapes.bytes_inj
  rw [ByteArray.data_append, Array.toList_append, ByteArray.data_append, Array.toList_append, ByteArray.data_append, Array.toList_append]
  simp
/-- What a command told says: its words, and itself. -/
theorem told {nb : List UInt8} {xs : List Int} (h : mayC nb xs = true) : wordsB (textO nb xs) = nb :: (xs.map Int.toNat).map digs ∧ parseB (nb :: (xs.map Int.toNat).map digs) = some (nb, xs.map Int.toNat) ∧ (xs.map Int.toNat).map Int.ofNat = xs ∧ (textO nb xs).length ≤ nb.length + 11 * xs.length ∧ xs.length ≤ 7 := by
  obtain ⟨h1, h2⟩ := mayC_in h
  have e : textO nb xs = textB nb (xs.map Int.toNat) := if_pos h
  have hx : ∀ x ∈ xs.map Int.toNat, x ≤ 2147483647 := fun x hx => by
    obtain ⟨z, hz, rfl⟩ := List.mem_map.1 hx
    have := h1 z hz
    omega
  refine ⟨?_, parse_text (by rw [List.length_map]; exact h2) hx, ?_, ?_, (nm_word h2).2.2.2⟩
  · rw [e, words_text, words_name h2]; rfl
  · rw [List.map_map]
    conv => rhs; rw [← List.map_id xs]
    exact List.map_congr_left fun z hz => by
      have := h1 z hz
      show ((z.toNat : Nat) : Int) = z
      omega
  · rw [e]
    have := textB_len nb (xs.map Int.toNat) hx
    rw [List.length_map] at this
    exact this
/-- Each of these words is short, not empty, and has no blank. -/
theorem told_word {nb : List UInt8} {xs : List Int} (h : mayC nb xs = true) (hn : nb.length ≤ 100) : ∀ u ∈ nb :: (xs.map Int.toNat).map digs, u ≠ [] ∧ (∀ b ∈ u, isBl b = false) ∧ u.length ≤ 100 := by
  obtain ⟨h1, h2⟩ := mayC_in h
  intro u hu
  rcases List.mem_cons.1 hu with rfl | hu
  · exact ⟨(nm_word h2).1, (nm_word h2).2.1, hn⟩
  · obtain ⟨x, hx, rfl⟩ := List.mem_map.1 hu
    obtain ⟨z, hz, rfl⟩ := List.mem_map.1 hx
    refine ⟨(digs_word _).1, (digs_word _).2, Nat.le_trans (digs_max 9 _ ?_) (by decide)⟩
    have := h1 z hz
    omega
theorem walk (nb : List UInt8) (A : Option Addr) (n cap : Nat) (xs : List Int) (A1 : Option Addr) (m cap1 : Nat) (f1 : Nat → Nat) (W : World) (hT : TabB W.heap.size W) (hn : xs.length = n) (hx : ∀ x ∈ xs, -9223372036854775808 ≤ x ∧ x ≤ 9223372036854775807) (rd0 : RdI W A xs) (rd1 : Rd W A1 m (fun j => .int .u8 (f1 j : Int))) :
    Calls Tryd.prog 4 #[.agg #[.string ⟨nb.toArray⟩, .slice A n cap], .slice A1 m cap1] W fun e W' => e = .returned (.bool true) ∧ Below W.heap.size W W' := by
  have hb := (St.begin W).box 25 #[.string ⟨nb.toArray⟩, .slice A n cap]
  have hbl : Below W.heap.size W (W.alloc (.cells #[.string ⟨nb.toArray⟩, .slice A n cap] 25)) := (Below.refl _ _).alloc (Nat.le_refl _) _
  have KA := Lib.hid (awake_c _ ((hT.at_ (Nat.le_refl _) hbl).up hbl.size))
  have HT := Lib.hid hT
  have HR := Lib.hid rd0
  have R1 := Lib.hid rd1
  obtain ⟨a, ha⟩ : ∃ a, W.heap.size = a := ⟨_, rfl⟩
  rw [ha] at hb
  have HB := Lib.hid hb
  clear hT rd0 rd1 hb hbl
  by_cases h1 : (40 : Int) < (n : Int)
  · have d1 : decide ((40 : Int) < (n : Int)) = true := decide_eq_true h1
    go_enter Tryd.func4, Tryd.ntmps4
    go_wp2_with (go_at_call 8; refine KA.out.mono ?_; rintro e w1 ⟨rfl, hb1⟩; have S1 := Lib.hid (HB.out.stay hb1); obtain ⟨p0, p1⟩ := (S1.out.blk 0 rfl).two; clear hb1)
    go_ret
    exact ⟨rfl, S1.out.below⟩
  have d1 : decide ((40 : Int) < (n : Int)) = false := decide_eq_false h1
  by_cases h2 : (100 : Int) < (nb.length : Int)
  · have d2 : decide ((100 : Int) < (nb.length : Int)) = true := decide_eq_true h2
    have d20 : decide (100 < nb.length) = true := decide_eq_true (by omega)
    go_enter Tryd.func4, Tryd.ntmps4
    go_wp2_with (go_at_call 8; refine KA.out.mono ?_; rintro e w1 ⟨rfl, hb1⟩; have S1 := Lib.hid (HB.out.stay hb1); obtain ⟨p0, p1⟩ := (S1.out.blk 0 rfl).two; clear hb1)
    go_ret
    exact ⟨rfl, S1.out.below⟩
  have d2 : decide ((100 : Int) < (nb.length : Int)) = false := decide_eq_false h2
  have d20 : decide (100 < nb.length) = false := decide_eq_false (by omega)
  by_cases h3 : (20 : Int) < (m : Int)
  · have d3 : decide ((20 : Int) < (m : Int)) = true := decide_eq_true h3
    go_enter Tryd.func4, Tryd.ntmps4
    go_wp2_with (go_at_call 8; refine KA.out.mono ?_; rintro e w1 ⟨rfl, hb1⟩; have S1 := Lib.hid (HB.out.stay hb1); obtain ⟨p0, p1⟩ := (S1.out.blk 0 rfl).two; clear hb1)
    go_ret
    exact ⟨rfl, S1.out.below⟩
  have d3 : decide ((20 : Int) < (m : Int)) = false := decide_eq_false h3
  have hn2 : n ≤ 40 := by omega
  have hnb : nb.length ≤ 100 := by omega
  have hm2 : m ≤ 20 := by omega
  clear h1 h2 h3
  have K1 := Lib.hid (fun (w : World) (h : Below W.heap.size W w) => text_o nb A n cap xs w hn (by omega) (by omega) hx (HR.out.on h) ((HT.out.at_ (Nat.le_refl _) h).up h.size))
  have K2 := Lib.hid (fun (w : World) (h : Below W.heap.size W w) => rtext_o nb A n cap xs w hn (by omega) (by omega) hx (HR.out.on h))
  have K3 := Lib.hid (fun (w : World) (h : Below W.heap.size W w) => may_o ⟨nb.toArray⟩ A n cap xs w hn (by omega) hx (HR.out.on h))
  have K4 := Lib.hid (fun (w : World) (h : Below W.heap.size W w) => rmay_o ⟨nb.toArray⟩ A n cap xs w hn (by omega) hx (HR.out.on h))
  rw [show (⟨nb.toArray⟩ : ByteArray).data.toList = nb from rfl] at K3 K4
  have KE := Lib.hid (fun (w : World) (h : Below W.heap.size W w) (B : Option Addr) (c : Nat) (hB : RdI w B xs) => same_o nb nb B A n n c cap xs xs w hn hn (by omega) (by omega) hB (HR.out.on h))
  rw [decide_eq_true (show nb = nb ∧ xs = xs from ⟨rfl, rfl⟩)] at KE
  have KE2 := Lib.hid KE.out
  cases hm : mayC nb xs with
  | false =>
    rw [hm] at K3 K4
    have ht : textO nb xs = [] := if_neg (by rw [hm]; exact Bool.false_ne_true)
    rw [ht] at K1 K2
    unfold stV at K1 K2
    clear hm ht KE KE2
    go_enter Tryd.func4, Tryd.ntmps4
    go_wp2_with (first | (go_at_call 8; refine KA.out.mono ?_; rintro e w1 ⟨rfl, hb1⟩; have S1 := Lib.hid (HB.out.stay hb1); obtain ⟨p0, p1⟩ := (S1.out.blk 0 rfl).two; clear hb1) | (go_at_call 19; refine (K1.out _ S1.out.below).mono ?_; rintro e w2 ⟨rfl, hb2⟩; have S2 := Lib.hid (S1.out.stay hb2); have q0 := (S2.out.blk 0 rfl).two.1; have q1 := (S2.out.blk 0 rfl).two.2; clear hb2 K1))
    go_region_held3 (fun V => V.cell? ⟨a, 0, none⟩ = some (.string ⟨nb.toArray⟩) ∧ V.cell? ⟨a, 1, none⟩ = some (.slice A n cap)) (go_keep)
      (first
        | (go_at_call 20; refine (K2.out _ S2.out.drew.below).mono ?_; rintro e w3 ⟨rfl, hb3⟩; have s3 := (S2.out.drew).stay hb3; have q3 := And.intro (s3.blk 0 rfl).two.1 (s3.blk 0 rfl).two.2; have S3 := Lib.hid s3; clear hb3 s3)
        | (go_at_call 21; refine (K3.out _ S3.out.below).mono ?_; rintro e w4 ⟨rfl, hb4⟩; have s4 := S3.out.stay hb4; have q4 := And.intro (s4.blk 0 rfl).two.1 (s4.blk 0 rfl).two.2; have S4 := Lib.hid s4; clear hb4 s4)
        | (go_at_call 22; refine (K4.out _ S4.out.below).mono ?_; rintro e w5 ⟨rfl, hb5⟩; have s5 := S4.out.stay hb5; have q5 := And.intro (s5.blk 0 rfl).two.1 (s5.blk 0 rfl).two.2; have S5 := Lib.hid s5; clear hb5 s5))
    all_goals
      have e0 := (S5.out.blk 0 rfl).two.1
      have e1 := (S5.out.blk 0 rfl).two.2
      go_wp2_with (go_at_call 22; refine (K4.out _ S5.out.below).mono ?_; rintro e w6 ⟨rfl, hb6⟩)
      go_ret
      exact ⟨rfl, (S5.out.stay hb6).below⟩
  | true =>
    rw [hm] at K3 K4
    obtain ⟨hw, hp, hns, hl, h7⟩ := told hm
    have hword := told_word hm hnb
    obtain ⟨T, hT⟩ : ∃ T, textO nb xs = T := ⟨_, rfl⟩
    rw [hT] at K1 K2 hw hl
    have hN : (nb :: (xs.map Int.toNat).map digs).length = n + 1 := by rw [List.length_cons, List.length_map, List.length_map, hn]
    obtain ⟨ws, hws⟩ : ∃ ws, nb :: (xs.map Int.toNat).map digs = ws := ⟨_, rfl⟩
    rw [hws] at hw hp hword hN
    rw [hn] at hl h7
    have KP := Lib.hid (fun (s : ByteArray) (h : wordsB s.data.toList = ws) (hs : s.size ≤ 90000) (w : World) => parse_some (s := s) (nb := nb) (ns := xs.map Int.toNat) (xs := xs) (k := n) hs (by rw [h]; exact hp) hns hn w)
    have KQ := Lib.hid (KP.out ⟨T.toArray⟩ hw (by show T.length ≤ _; omega))
    have KW := Lib.hid (fun w => words_o ⟨T.toArray⟩ w (by show T.length ≤ _; omega))
    rw [show (⟨T.toArray⟩ : ByteArray).data.toList = T from rfl, hw, hN] at KW
    have HWD := Lib.hid hword
    have HN := Lib.hid hN
    have y1 : (T != T) = false := by simp
    unfold stV at K1 K2
    clear hm hw hp hns hword hT hws hN
    go_enter Tryd.func4, Tryd.ntmps4
    go_wp2_with (first | (go_at_call 8; refine KA.out.mono ?_; rintro e w1 ⟨rfl, hb1⟩; have S1 := Lib.hid (HB.out.stay hb1); obtain ⟨p0, p1⟩ := (S1.out.blk 0 rfl).two; clear hb1) | (go_at_call 19; refine (K1.out _ S1.out.below).mono ?_; rintro e w2 ⟨rfl, hb2⟩; have S2 := Lib.hid (S1.out.stay hb2); have q0 := (S2.out.blk 0 rfl).two.1; have q1 := (S2.out.blk 0 rfl).two.2; clear hb2 K1))
    go_region_held3 (fun V => V.cell? ⟨a, 0, none⟩ = some (.string ⟨nb.toArray⟩) ∧ V.cell? ⟨a, 1, none⟩ = some (.slice A n cap)) (go_keep)
      (first
        | (go_at_call 20; refine (K2.out _ S2.out.drew.below).mono ?_; rintro e w3 ⟨rfl, hb3⟩; have s3 := (S2.out.drew).stay hb3; have q3 := And.intro (s3.blk 0 rfl).two.1 (s3.blk 0 rfl).two.2; have S3 := Lib.hid s3; clear hb3 s3)
        | (go_at_call 21; refine (K3.out _ S3.out.below).mono ?_; rintro e w4 ⟨rfl, hb4⟩; have s4 := S3.out.stay hb4; have q4 := And.intro (s4.blk 0 rfl).two.1 (s4.blk 0 rfl).two.2; have S4 := Lib.hid s4; clear hb4 s4)
        | (go_at_call 22; refine (K4.out _ S4.out.below).mono ?_; rintro e w5 ⟨rfl, hb5⟩; have s5 := S4.out.stay hb5; have q5 := And.intro (s5.blk 0 rfl).two.1 (s5.blk 0 rfl).two.2; have S5 := Lib.hid s5; clear hb5 s5))
    all_goals
      have e0 := (S5.out.blk 0 rfl).two.1
      have e1 := (S5.out.blk 0 rfl).two.2
      go_wp2_with fail
      refine (K4.out _ S5.out.below).mono ?_
      rintro e w6 ⟨rfl, hb6⟩
      have S6 := Lib.hid (S5.out.stay hb6)
      clear hb6
      go_wp2_with fail
      refine (KQ.out _).mono ?_
      rintro e w7 ⟨B7, c7, rfl, k7⟩
      obtain ⟨p7, hp7⟩ : ∃ p, w7.heap.size = p := ⟨_, rfl⟩
      have s7 := (S6.out.join k7).box 25 #[.string ⟨nb.toArray⟩, .slice B7 n c7]
      rw [hp7] at s7
      have S7 := Lib.hid s7
      clear s7 k7
      go_wp2_with fail
      refine (KW.out _).mono ?_
      rintro e w8 ⟨B8, c8, rfl, k8⟩
      have S8 := Lib.hid (S7.out.join k8)
      clear k8
      go_wp2_with fail
      go_loopw [9, 10] (fun x9 x10 wr => ∃ (i : Nat) (t : List UInt8), i ≤ n + 1 ∧ x9 = stV t ∧ x10 = .int .i64 (i : Int) ∧ t.length ≤ 103 * i ∧ wfold t = (ws.take i, []) ∧ St W None wr [BlkR a 25 #[.string ⟨nb.toArray⟩, .slice A n cap], LisR 3 1 (.slice B7 n c7) n (ivI xs), BlkR p7 25 #[.string ⟨nb.toArray⟩, .slice B7 n c7], LisR 9 1 (.slice B8 (n + 1) c8) (n + 1) (stVs ws)]) (fun _ x10 _ => n + 1 - (intOf x10).toNat)
      case atStart => exact ⟨0, [], Nat.zero_le _, rfl, rfl, Nat.le_refl _, rfl, S8.out⟩
      case round =>
        obtain ⟨i, t, hi, rfl, rfl, tl, hwf, hst⟩ := hrel
        clear hp7
        by_cases hlt : i < n + 1
        · have z1 : decide ((i : Int) < ((n + 1 : Nat) : Int)) = true := decide_eq_true (by omega)
          have z11 : decide ((i : Int) < (n : Int) + 1) = true := decide_eq_true (by omega)
          obtain ⟨u, hu⟩ : ∃ u, ws[i]? = some u := ⟨ws[i]'(by have := HN.out; omega), List.getElem?_eq_getElem _⟩
          obtain ⟨g, o, rfl, hg, c1⟩ := (hst.rdc 3 rfl).1.strs i u hu
          obtain ⟨u1, u2, ul⟩ := HWD.out u (List.mem_of_getElem? hu)
          have HF := Lib.hid (fun (bl : List UInt8) (hb : ∀ b ∈ bl, isBl b = true) => show wfold (t ++ (u ++ 32 :: bl)) = (ws.take (i + 1), []) from by
            rw [wfold_more (by rw [hwf]) u1 u2 hb, hwf, take_snoc hu])
          have HS := Lib.hid hst
          clear hst hu hwf u1 u2
          by_cases hm0 : m = 0
          · subst hm0
            have HV := Lib.hid (cat_word t u)
            unfold stV
            go_wp2
            go_roundw
            case rel => exact ⟨i + 1, t ++ (u ++ [32]), by omega, HV.out, by go_num, by rw [List.length_append, List.length_append]; show _ + (_ + 1) ≤ _; omega, HF.out [] (fun b hb => by cases hb), HS.out⟩
            case measure => simp [intOf]; omega
          · have z2 : decide ((0 : Int) < (m : Int)) = true := decide_eq_true (by omega)
            have z21 : decide (0 < m) = true := decide_eq_true (by omega)
            obtain ⟨ab, ao, rfl, lA, cA⟩ := R1.out.below HS.out.below (Nat.le_refl _) (show 0 < m by omega)
            have y5 : ((m : Int) == 0) = false := beq_eq_false_iff_ne.2 (by omega)
            obtain ⟨j, hj⟩ : ∃ j, i % m = j := ⟨_, rfl⟩
            have hjm : j < m := by rw [← hj]; exact Nat.mod_lt _ (by omega)
            have jm : (i : Int) % (m : Int) = (j : Int) := by rw [← hj]; exact (Int.natCast_emod i m).symm
            have jt : Int.tmod (i : Int) (m : Int) = (j : Int) := by rw [Int.tmod_eq_emod_of_nonneg (by omega)]; exact jm
            have c2 := cA j hjm
            dsimp only at c2
            obtain ⟨k, hk⟩ : ∃ k, f1 j = k := ⟨_, rfl⟩
            rw [hk] at c2
            have c3 := cell_alloc c2 (.cells #[.string ⟨#[]⟩, .string ⟨#[9]⟩, .string ⟨#[10, 32]⟩, .string ⟨#[13]⟩] 9)
            have dd : ((k : Int) % 4 = 0 ∧ bks k = []) ∨ ((k : Int) % 4 = 1 ∧ bks k = [9]) ∨ ((k : Int) % 4 = 2 ∧ bks k = [10, 32]) ∨ ((k : Int) % 4 = 3 ∧ bks k = [13]) := by
              unfold bks
              have : k % 4 < 4 := Nat.mod_lt _ (by decide)
              by_cases e0 : k % 4 = 0
              · exact Or.inl ⟨by omega, if_pos e0⟩
              rw [if_neg e0]
              by_cases e1 : k % 4 = 1
              · exact Or.inr (Or.inl ⟨by omega, if_pos e1⟩)
              rw [if_neg e1]
              by_cases e2 : k % 4 = 2
              · exact Or.inr (Or.inr (Or.inl ⟨by omega, if_pos e2⟩))
              rw [if_neg e2]
              exact Or.inr (Or.inr (Or.inr ⟨by omega, rfl⟩))
            have HK := Lib.hid (HF.out (bks k) (bks_bl k))
            have HSA := Lib.hid (HS.out.alloc (.cells #[.string ⟨#[]⟩, .string ⟨#[9]⟩, .string ⟨#[10, 32]⟩, .string ⟨#[13]⟩] 9))
            clear hj hk cA hm0
            rcases dd with ⟨e1, e2⟩ | ⟨e1, e2⟩ | ⟨e1, e2⟩ | ⟨e1, e2⟩ <;> (
              rw [e2] at HK
              have HV := Lib.hid (cat_word2 t u)
              clear e2
              unfold stV
              go_wp2
              go_roundw
              case rel => exact ⟨i + 1, _, by omega, HV.out _, by go_num, by rw [List.length_append, List.length_append, List.length_cons]; simp; omega, HK.out, HSA.out⟩
              case measure => simp [intOf]; omega)
        obtain rfl : i = n + 1 := by omega
        have z1 : decide (((n + 1 : Nat) : Int) < ((n + 1 : Nat) : Int)) = false := decide_eq_false (by omega)
        have z11 : decide ((n : Int) + 1 < (n : Int) + 1) = false := decide_eq_false (by omega)
        have hwt : wordsB t = ws := by rw [wfin, hwf, List.take_of_length_le (by have := HN.out; omega)]; rfl
        have KZ := Lib.hid (KP.out ⟨t.toArray⟩ hwt (by show t.length ≤ _; omega))
        have HS := Lib.hid hst
        clear hst hwf hwt
        unfold stV
        go_wp2_with fail
        refine (KZ.out _).mono ?_
        rintro e w9 ⟨B9, c9, rfl, k9⟩
        obtain ⟨p9, hp9⟩ : ∃ p, w9.heap.size = p := ⟨_, rfl⟩
        have s9 := (HS.out.join k9).box 25 #[.string ⟨nb.toArray⟩, .slice B9 n c9]
        rw [hp9] at s9
        have S9 := Lib.hid s9
        clear s9 k9
        obtain ⟨g0, g1⟩ := (S9.out.blk 0 rfl).two
        obtain ⟨g2, g3⟩ := (S9.out.blk 2 rfl).two
        go_wp2_with fail
        refine (KE.out _ S9.out.below B7 c7 (S9.out.rdc 1 rfl).1.ints).mono ?_
        rintro e wa ⟨rfl, hba⟩
        have SA := Lib.hid (S9.out.stay hba)
        obtain ⟨g4, g5⟩ := (SA.out.blk 0 rfl).two
        obtain ⟨g6, g7⟩ := (SA.out.blk 5 rfl).two
        clear g0 g1 g2 g3
        go_wp2_with fail
        refine (KE2.out _ SA.out.below B9 c9 (SA.out.rdc 4 rfl).1.ints).mono ?_
        rintro e wb ⟨rfl, hbb⟩
        have SB := Lib.hid (SA.out.stay hbb)
        obtain ⟨g8, g9⟩ := (SB.out.blk 0 rfl).two
        clear g4 g5 g6 g7
        have y9 : (((n + 1 : Nat) : Int) == (n : Int) + 1) = true := beq_iff_eq.2 (by omega)
        have y91 : ((n : Int) + 1 == (n : Int) + 1) = true := beq_iff_eq.2 rfl
        go_wp2_with fail
        go_ret
        exact ⟨rfl, SB.out.below⟩

theorem door_met (os : Os) (args : Array Value) : laidMetH Tryd.prog Rows.callTellsRow.laid ((World.doorLaid Tryd.prog 24 os).forCall (fun _ _ => 0) ⟨#[], args, []⟩).memory :=
  laidMetH_of_parts3 (fuel := 8) (laidMet_of_run' 8 (by kernel_rfl) (by kernel_rfl)) (by kernel_rfl) (by kernel_rfl)
set_option maxRecDepth 100000 in
theorem lifted (os : Os) (started : os.Started) (H : Type) (enc : TypeId × Value → H) :
    ReturnsInHanded {} Tryd.checked os 4 .any (fun w args => (Rows.callTellsSpec.pre enc Tryd.prog Tryd.f4 [] false w args ∧ laidMetH Tryd.prog Rows.callTellsRow.laid w) ∧ sizedMet enc Tryd.prog Tryd.f4 (OpenSpec.ofChange Rows.callTellsSpec) false w args) (Rows.callTellsSpec.post enc Tryd.prog Tryd.f4 false true false false) := by
  refine law_lifted_laid (C := Tryd.checked) (tb := 4) own started (by kernel_rfl) Tryd.func4
    (ChangeSpec.witness_shaped (enc := enc) (C := Tryd.checked) (os := os) (X := fun w _ => laidMetH Tryd.prog Rows.callTellsRow.laid w) false (World.doorLaid Tryd.prog 24 os) #[.agg #[.string ByteArray.empty, .slice none 0 0], .slice none 0 0] 8 rfl (World.shaped_of_RefB (by kernel_rfl) (by kernel_rfl)) (by kernel_rfl) (by kernel_rfl) (by kernel_rfl) (door_met os _)) laid (by kernel_rfl) (by kernel_rfl) Tryd.underlying4 rfl ?_
  intro W base args ds ps hval0 hA0 hlt hL
  have hval : ∀ (j : Nat) t v, Tryd.f4.params[j]? = some t → args[j]? = some v → Value.okWide Tryd.prog W .any base t v := hval0
  have hA : DataW.TrodAll enc Tryd.prog W 0 (fun _ => true) true Tryd.f4.params.toList args.toList ds ps := hA0
  clear hA0 hval0
  rw [Tryd.params4] at hA hval
  obtain ⟨v0, vs0, d0, ds0, p0, q0, hargs, rfl, rfl, h0, r0⟩ := trodAll_cons hA
  obtain ⟨v1, vs1, d1, ds1, p1, q1, rfl, rfl, rfl, h1, r1⟩ := trodAll_cons r0
  obtain ⟨rfl, rfl, rfl⟩ := trodAll_nil r1
  obtain rfl : args = #[v0, v1] := by cases args; simp_all
  obtain ⟨cs0, rfl, sz0, lf0⟩ := open_agg_spots (d := 20) (l := [(0, 9), (1, 23)]) (Or.inl ⟨_, Tryd.underlying25⟩) (by kernel_rfl) (hval 0 25 v0 rfl rfl) h0
  obtain ⟨c0_0, c0_1, rfl⟩ := size2 (sz0.trans (by kernel_rfl))
  obtain ⟨a0_0, rfl, w0_0⟩ := leaf_string Tryd.underlying9 (lf0 0 9 (by simp) _ rfl)
  obtain ⟨A0_1, n0_1, cap0_1, V0_1, rfl, le0_1, mx0_1, rd0_1, lf0_1⟩ := leaf_slice (m := 1) (d := 20) (l := [(0, 3)]) Tryd.underlying23 (by kernel_rfl) (by decide) (by kernel_rfl) (lf0 1 23 (by simp) _ rfl)
  have f0_1_0 := fun j hj => leaf_int Tryd.underlying3 (lf0_1 0 3 (by simp) j hj)
  obtain ⟨A1, n1, cap1, f1, rfl, le1, mx1, wf1, rd1⟩ := open_slice_ints Tryd.underlying36 Tryd.underlying5 (by kernel_rfl) (hval 1 36 v1 rfl rfl) h1
  refine ⟨⟨rfl, rfl, rfl⟩, ?_⟩
  obtain ⟨X, hX⟩ := Go.Deep.choose_lt (n := n0_1) (p := fun j (z : Int) => V0_1 j 0 = .int .i64 z ∧ (Lit.int .i64 z).wf = true) f0_1_0
  obtain ⟨nb, rfl⟩ : ∃ nb : List UInt8, a0_0 = ⟨nb.toArray⟩ := ⟨a0_0.data.toList, lit_eq rfl⟩
  refine walk nb A0_1 n0_1 cap0_1 ((List.range n0_1).map X) A1 n1 cap1 (fun j => (f1 j).toNat) W (tab_of hL) (by rw [List.length_map, List.length_range]) (fun x hx => ?_) (fun i x hx => ?_) (by
    have e : (fun j => Value.int .u8 (f1 j)) = fun j => Value.int .u8 (((f1 j).toNat : Nat) : Int) := by
      funext j
      rw [Int.toNat_of_nonneg (bounds_u8 (wf1 j)).1]
    rw [← e]; exact rd1)
  · obtain ⟨j, hj, rfl⟩ := List.mem_map.1 hx
    exact bounds_i64 (hX j (List.mem_range.1 hj)).2
  · rw [List.getElem?_map] at hx
    obtain ⟨j, hj, rfl⟩ := Option.map_eq_some_iff.1 hx
    obtain ⟨hj1, hj2⟩ := List.getElem?_eq_some_iff.1 hj
    rw [List.getElem_range] at hj2
    subst hj2
    rw [List.length_range] at hj1
    obtain ⟨b, off, e, hlt, hc⟩ := rd0_1 (by omega)
    exact ⟨b, off, e, hlt, by
      have := hc i hj1 0 (by omega)
      rw [(hX i hj1).1] at this
      rw [← this]
      simp⟩

theorem over : Rows.callTellsRow.holds Tryd.pinned (OpenSpec.ofChange Rows.callTellsSpec) :=
  OpenClaim.holds_of_wide 4 Tryd.f4 rfl rfl rfl rfl rfl rfl rfl ⟨rfl, rfl, rfl, rfl, rfl⟩ rfl rfl rfl rfl rfl (by kernel_rfl) Tryd.func4 (by kernel_rfl)
    (of_decide_eq_true (by kernel_rfl)) (by unfold Func.isWrapper; first | (rw [if_pos (by decide +kernel)]; kernel_rfl) | (rw [if_neg (by decide +kernel)]; exact ⟨rfl, rfl⟩))
    (fun os started H enc _ => lifted os started H enc)
theorem proved : Rows.CallTellsCardSaid :=
  Claim7.holds_tied_plain_at .later [] Rows.callTellsCard.laidKinds true Rows.callTellsCard.stood.harness Rows.callTellsCard.stood.looks
    over (fun _ h => by cases h) (by kernel_rfl) (fun _ h => by cases h) callTells_row_tie rfl ⟨rfl, rfl⟩ (by kernel_rfl) rfl
    (fun f fn hf hfn => by
      obtain rfl : f = 4 := Option.some.inj ((show Tryd.prog.funcNamed Rows.callTellsRow.func = some 4 by kernel_rfl).symm.trans hf) |>.symm
      obtain rfl : fn = Tryd.f4 := (Option.some.inj (Tryd.func4.symm.trans hfn)).symm
      exact ⟨by kernel_rfl, fun j t ht => by
        rw [Tryd.params4] at ht
        have hm : t ∈ [25, 36] := by simpa using Array.mem_of_getElem? ht
        have hall : ([25, 36].all fun u => !Tryd.prog.wantsStandIn u) = true := by kernel_rfl
        exact (show Tryd.prog.wantsStandIn t = false by simpa using List.all_eq_true.1 hall t hm)⟩)
    (by kernel_rfl)
#print axioms proved
end Go.Proofs.YtgajcjacnnpfcaaDoor.callTells
