/-
  For every two rows of bytes and every text CallBlank answers true, and changes nothing: a line of at most 100 and 100 blanks has no words, and is no command; at most 100 blanks at either end of a line of at most 300 bytes change nothing. Condition: the tables that the row lists hold what the program's text lays in them.
-/
import Derived.Test.YtgajcjacnnpfcaaDoorRows
import Derived.Test.YtgajcjacnnpfcaaDoorFr
import Derived.Test.YtgajcjacnnpfcaaDoorFrL
import Derived.Test.YtgajcjacnnpfcaaDoorCards
import Derived.Test.YtgajcjacnnpfcaaDoorTie
import Derived.SevenTiedAt
import Derived.Test.YtgajcjacnnpfcaaDoorCalV
import Derived.Deep.RegionHeld3
namespace Go.Proofs.YtgajcjacnnpfcaaDoor.callBlank
open Go.ChangeShapes Go.WideShapes Go.ChangeAt Go.RowKit
set_option linter.unusedVariables false
theorem own : ownKnob Tryd.prog.godebug = none := by kernel_rfl
theorem laid : laidOutB Tryd.prog = true := by kernel_rfl
set_option maxHeartbeats 4000000
set_option maxRecDepth 100000
/-- The blank that a byte asks for. -/
def blk (k : Nat) : UInt8 := if k % 4 = 0 then 32 else if k % 4 = 1 then 9 else if k % 4 = 2 then 10 else 13
theorem blk_bl (k : Nat) : isBl (blk k) = true := by
  unfold blk
  split
  · decide
  · split
    · decide
    · split <;> decide
def blks (f : Nat → Nat) (n : Nat) : List UInt8 := (List.range n).map fun j => blk (f j)
theorem blks_len (f : Nat → Nat) (n : Nat) : (blks f n).length = n := by unfold blks; rw [List.length_map, List.length_range]
theorem blks_more (f : Nat → Nat) (n : Nat) : blks f (n + 1) = blks f n ++ [blk (f n)] := by unfold blks; rw [List.range_succ, List.map_append]; rfl
theorem blks_all (f : Nat → Nat) (n : Nat) : ∀ b ∈ blks f n, isBl b = true := fun b hb => by
  obtain ⟨j, _, rfl⟩ := List.mem_map.1 hb
  exact blk_bl _
theorem cat2 (x y : List UInt8) : ((⟨x.toArray⟩ : ByteArray) ++ (⟨y.toArray⟩ : ByteArray)).data.toList = x ++ y := by rw [ByteArray.data_append, Array.toList_append]
theorem cat3 (x : List UInt8) (s : ByteArray) (y : List UInt8) : ((⟨x.toArray⟩ : ByteArray) ++ s ++ (⟨y.toArray⟩ : ByteArray)).data.toList = x ++ (s.data.toList ++ y) := by
  rw [ByteArray.data_append, Array.toList_append, ByteArray.data_append, Array.toList_append, List.append_assoc]
theorem walk (A0 : Option Addr) (n cap0 : Nat) (f : Nat → Nat) (A1 : Option Addr) (m cap1 : Nat) (f1 : Nat → Nat) (a2 : ByteArray) (W : World) (hT : TabB W.heap.size W) (rd0 : Rd W A0 n (fun j => .int .u8 (f j : Int))) (rd1 : Rd W A1 m (fun j => .int .u8 (f1 j : Int))) :
    Calls Tryd.prog 7 #[.slice A0 n cap0, .slice A1 m cap1, .string a2] W fun e W' => e = .returned (.bool true) ∧ Below W.heap.size W W' := by
  have KA := Lib.hid (awake_c W hT)
  have HT := Lib.hid hT
  clear hT
  by_cases h1 : (100 : Int) < (n : Int)
  · have d1 : decide ((100 : Int) < (n : Int)) = true := decide_eq_true h1
    go_enter Tryd.func7, Tryd.ntmps7
    go_wp2_with (go_at_call 8; refine KA.out.mono ?_; rintro e w1 ⟨rfl, hb1⟩)
    go_ret
    exact ⟨rfl, hb1⟩
  have d1 : decide ((100 : Int) < (n : Int)) = false := decide_eq_false h1
  by_cases h2 : (100 : Int) < (m : Int)
  · have d2 : decide ((100 : Int) < (m : Int)) = true := decide_eq_true h2
    go_enter Tryd.func7, Tryd.ntmps7
    go_wp2_with (go_at_call 8; refine KA.out.mono ?_; rintro e w1 ⟨rfl, hb1⟩)
    go_ret
    exact ⟨rfl, hb1⟩
  have d2 : decide ((100 : Int) < (m : Int)) = false := decide_eq_false h2
  by_cases h3 : (300 : Int) < (a2.size : Int)
  · have d3 : decide ((300 : Int) < (a2.size : Int)) = true := decide_eq_true h3
    go_enter Tryd.func7, Tryd.ntmps7
    go_wp2_with (go_at_call 8; refine KA.out.mono ?_; rintro e w1 ⟨rfl, hb1⟩)
    go_ret
    exact ⟨rfl, hb1⟩
  have d3 : decide ((300 : Int) < (a2.size : Int)) = false := decide_eq_false h3
  have hn : n ≤ 100 := by omega
  have hm : m ≤ 100 := by omega
  have hs : a2.size ≤ 300 := by omega
  clear h1 h2 h3
  have R0 := Lib.hid rd0
  have R1 := Lib.hid rd1
  clear rd0 rd1
  go_enter Tryd.func7, Tryd.ntmps7
  go_wp2_with (go_at_call 8; refine KA.out.mono ?_; rintro e w1 ⟨rfl, hb1⟩)
  go_loopw [7, 9] (fun x7 x9 wr => ∃ i : Nat, i ≤ n ∧ x7 = stV (blks f i) ∧ x9 = .int .i64 (i : Int) ∧ St W None wr []) (fun _ x9 _ => n - (intOf x9).toNat)
  case atStart => exact ⟨0, Nat.zero_le _, rfl, rfl, (St.begin W).stay hb1⟩
  case round =>
    obtain ⟨i, hi, rfl, rfl, hst⟩ := hrel
    clear hb1
    by_cases hlt : i < n
    · have z1 : decide ((i : Int) < (n : Int)) = true := decide_eq_true (by omega)
      have hn0 : 0 < n := by omega
      have hrd := R0.out.below hst.below (Nat.le_refl _)
      have bl := blks_len f i
      obtain ⟨ab, ao, rfl, lA, cA⟩ := hrd hn0
      have c1 := cA i hlt
      dsimp only at c1
      have c2 := cell_alloc c1 (.cells #[.string ⟨#[32]⟩, .string ⟨#[9]⟩, .string ⟨#[10]⟩, .string ⟨#[13]⟩] 9)
      have HS := Lib.hid (hst.alloc (.cells #[.string ⟨#[32]⟩, .string ⟨#[9]⟩, .string ⟨#[10]⟩, .string ⟨#[13]⟩] 9))
      clear hst hrd cA
      obtain ⟨k, hk⟩ : ∃ k, f i = k := ⟨_, rfl⟩
      have HM := Lib.hid (blks_more f i)
      rw [hk] at c1 c2 HM
      clear hk
      have dd : ((k : Int) % 4 = 0 ∧ blk k = 32) ∨ ((k : Int) % 4 = 1 ∧ blk k = 9) ∨ ((k : Int) % 4 = 2 ∧ blk k = 10) ∨ ((k : Int) % 4 = 3 ∧ blk k = 13) := by
        unfold blk
        have : k % 4 < 4 := Nat.mod_lt _ (by decide)
        by_cases e0 : k % 4 = 0
        · exact Or.inl ⟨by omega, if_pos e0⟩
        rw [if_neg e0]
        by_cases e1 : k % 4 = 1
        · exact Or.inr (Or.inl ⟨by omega, if_pos e1⟩)
        rw [if_neg e1]
        by_cases e2 : k % 4 = 2
        · exact Or.inr (Or.inr (Or.inl ⟨by omega, if_pos e2⟩))
        rw [if_neg e2]
        exact Or.inr (Or.inr (Or.inr ⟨by omega, rfl⟩))
      obtain ⟨l, hl⟩ : ∃ l, blks f i = l := ⟨_, rfl⟩
      rw [hl] at bl HM ⊢
      clear hl
      rcases dd with ⟨e1, e2⟩ | ⟨e1, e2⟩ | ⟨e1, e2⟩ | ⟨e1, e2⟩ <;> (
        rw [e2] at HM
        have HV := Lib.hid (stV_more l)
        unfold stV
        go_wp2
        go_roundw
        case rel => exact ⟨i + 1, by omega, by rw [HM.out]; exact HV.out _, by go_num, HS.out⟩
        case measure => simp [intOf]; omega)
    obtain rfl : i = n := by omega
    have z1 : decide ((i : Int) < (i : Int)) = false := decide_eq_false (by omega)
    have S1 := Lib.hid hst
    have bl1 := blks_len f i
    have BA := Lib.hid (blks_all f i)
    clear hst
    obtain ⟨l1, hl1⟩ : ∃ l, blks f i = l := ⟨_, rfl⟩
    rw [hl1] at bl1 BA ⊢
    replace bl1 : l1.length ≤ 100 := by omega
    clear hl1 z1 hlt
    go_wp2_with fail
    go_loopw [8, 10] (fun x8 x10 wr => ∃ i : Nat, i ≤ m ∧ x8 = stV (blks f1 i) ∧ x10 = .int .i64 (i : Int) ∧ St W None wr []) (fun _ x10 _ => m - (intOf x10).toNat)
    case atStart => exact ⟨0, Nat.zero_le _, rfl, rfl, S1.out⟩
    case round =>
      obtain ⟨i, hi, rfl, rfl, hst⟩ := hrel
      by_cases hlt : i < m
      · have z1 : decide ((i : Int) < (m : Int)) = true := decide_eq_true (by omega)
        have hn0 : 0 < m := by omega
        have hrd := R1.out.below hst.below (Nat.le_refl _)
        have bl := blks_len f1 i
        obtain ⟨ab, ao, rfl, lA, cA⟩ := hrd hn0
        have c1 := cA i hlt
        dsimp only at c1
        have c2 := cell_alloc c1 (.cells #[.string ⟨#[32]⟩, .string ⟨#[9]⟩, .string ⟨#[10]⟩, .string ⟨#[13]⟩] 9)
        have HS := Lib.hid (hst.alloc (.cells #[.string ⟨#[32]⟩, .string ⟨#[9]⟩, .string ⟨#[10]⟩, .string ⟨#[13]⟩] 9))
        clear hst hrd cA
        obtain ⟨k, hk⟩ : ∃ k, f1 i = k := ⟨_, rfl⟩
        have HM := Lib.hid (blks_more f1 i)
        rw [hk] at c1 c2 HM
        clear hk
        have dd : ((k : Int) % 4 = 0 ∧ blk k = 32) ∨ ((k : Int) % 4 = 1 ∧ blk k = 9) ∨ ((k : Int) % 4 = 2 ∧ blk k = 10) ∨ ((k : Int) % 4 = 3 ∧ blk k = 13) := by
          unfold blk
          have : k % 4 < 4 := Nat.mod_lt _ (by decide)
          by_cases e0 : k % 4 = 0
          · exact Or.inl ⟨by omega, if_pos e0⟩
          rw [if_neg e0]
          by_cases e1 : k % 4 = 1
          · exact Or.inr (Or.inl ⟨by omega, if_pos e1⟩)
          rw [if_neg e1]
          by_cases e2 : k % 4 = 2
          · exact Or.inr (Or.inr (Or.inl ⟨by omega, if_pos e2⟩))
          rw [if_neg e2]
          exact Or.inr (Or.inr (Or.inr ⟨by omega, rfl⟩))
        obtain ⟨l, hl⟩ : ∃ l, blks f1 i = l := ⟨_, rfl⟩
        rw [hl] at bl HM ⊢
        clear hl
        rcases dd with ⟨e1, e2⟩ | ⟨e1, e2⟩ | ⟨e1, e2⟩ | ⟨e1, e2⟩ <;> (
          rw [e2] at HM
          have HV := Lib.hid (stV_more l)
          unfold stV
          go_wp2
          go_roundw
          case rel => exact ⟨i + 1, by omega, by rw [HM.out]; exact HV.out _, by go_num, HS.out⟩
          case measure => simp [intOf]; omega)
      obtain rfl : i = m := by omega
      have z1 : decide ((i : Int) < (i : Int)) = false := decide_eq_false (by omega)
      have bl2 := blks_len f1 i
      have BB := Lib.hid (blks_all f1 i)
      obtain ⟨l2, hl2⟩ : ∃ l, blks f1 i = l := ⟨_, rfl⟩
      rw [hl2] at bl2 BB ⊢
      replace bl2 : l2.length ≤ 100 := by omega
      have yc : ¬ (9223372036854775807 < l1.length + l2.length) := by omega
      have S2 := Lib.hid hst
      clear hl2 hst
      -- what the three lines say
      have hw1 : wordsB (l1 ++ l2) = [] := words_blanks _ fun b hb => (List.mem_append.1 hb).elim (BA.out b) (BB.out b)
      have sz1 : ((⟨l1.toArray⟩ : ByteArray) ++ (⟨l2.toArray⟩ : ByteArray)).size ≤ 200 := by
        have e := congrArg List.length (cat2 l1 l2)
        rw [lst_len, List.length_append] at e
        omega
      have K1 := Lib.hid (fun w => parse_none (s := (⟨l1.toArray⟩ : ByteArray) ++ (⟨l2.toArray⟩ : ByteArray)) (by omega) (by rw [cat2, hw1]; rfl) w)
      have K2 := Lib.hid (fun w => words_o ((⟨l1.toArray⟩ : ByteArray) ++ (⟨l2.toArray⟩ : ByteArray)) w (by omega))
      rw [cat2, hw1] at K2
      have K3 := Lib.hid (fun w => parse_o a2 w (by omega))
      have sz3 : ((⟨l1.toArray⟩ : ByteArray) ++ a2 ++ (⟨l2.toArray⟩ : ByteArray)).size ≤ 500 := by
        have e := congrArg List.length (cat3 l1 a2 l2)
        rw [lst_len, List.length_append, List.length_append, lst_len] at e
        omega
      have K4 := Lib.hid (fun w => parse_o ((⟨l1.toArray⟩ : ByteArray) ++ a2 ++ (⟨l2.toArray⟩ : ByteArray)) w (by omega))
      rw [cat3, words_ahead _ _ BA.out, words_behind _ _ BB.out] at K4
      obtain ⟨hs1, hs2, hs3⟩ := parse_small a2.data.toList
      obtain ⟨nb, hnb⟩ : ∃ nb, pN (parseB (wordsB a2.data.toList)) = nb := ⟨_, rfl⟩
      obtain ⟨X, hX⟩ : ∃ X, pX (parseB (wordsB a2.data.toList)) = X := ⟨_, rfl⟩
      obtain ⟨cd, hcd⟩ : ∃ cd, pC (parseB (wordsB a2.data.toList)) = cd := ⟨_, rfl⟩
      rw [hnb, hX, hcd] at K3 K4
      rw [hnb, lst_len] at hs1
      rw [hX] at hs2 hs3
      rw [lst_len] at hs2
      obtain ⟨k, hk⟩ : ∃ k, X.length = k := ⟨_, rfl⟩
      rw [hk] at K3 K4 hs2
      obtain ⟨u, hu⟩ : ∃ u, textO nb X = u := ⟨_, rfl⟩
      have KT := Lib.hid (fun (w : World) (L : List Res) (B : Option Addr) (c : Nat) (s : St W None w L) (i : Nat) (hi : L[i]? = some (LisR 3 1 (.slice B k c) k (ivI X))) => text_st nb B k c X HT.out hk (by omega) (by omega) hs3 s i hi)
      rw [hu] at KT
      unfold stV at KT
      have KT2 := Lib.hid KT.out
      have y1 : (cd == cd) = true := beq_self_eq_true cd
      have y2 : (u == u) = true := beq_self_eq_true u
      clear hnb hX hcd hk hu hs1 hs2 hs3 hw1 sz1 sz3
      unfold stV
      go_wp2_with fail
      refine (K1.out _).mono ?_
      rintro e w3 ⟨B3, c3, rfl, k3⟩
      have S3 := Lib.hid ((S2.out.join k3).box 25 #[.string ⟨#[]⟩, .slice B3 0 c3])
      go_wp2_with fail
      refine (K3.out _).mono ?_
      rintro e w4 ⟨B4, c4, rfl, k4⟩
      obtain ⟨p4, hp4⟩ : ∃ a, w4.heap.size = a := ⟨_, rfl⟩
      have s4 := (S3.out.join k4).box 25 #[.string ⟨nb.toArray⟩, .slice B4 k c4]
      rw [hp4] at s4
      have S4 := Lib.hid s4
      clear s4
      go_wp2_with fail
      refine (K4.out _).mono ?_
      rintro e w5 ⟨B5, c5, rfl, k5⟩
      obtain ⟨p5, hp5⟩ : ∃ a, w5.heap.size = a := ⟨_, rfl⟩
      have s5 := (S4.out.join k5).box 25 #[.string ⟨nb.toArray⟩, .slice B5 k c5]
      rw [hp5] at s5
      have S5 := Lib.hid s5
      clear s5 k3 k4 k5
      obtain ⟨q0, q1⟩ := (S5.out.blk 3 rfl).two
      obtain ⟨q2, q3⟩ := (S5.out.blk 5 rfl).two
      go_wp2_with fail
      go_region_held3 (fun V => V.cell? ⟨p4, 0, none⟩ = some (.string ⟨nb.toArray⟩) ∧ V.cell? ⟨p4, 1, none⟩ = some (.slice B4 k c4) ∧ V.cell? ⟨p5, 0, none⟩ = some (.string ⟨nb.toArray⟩) ∧ V.cell? ⟨p5, 1, none⟩ = some (.slice B5 k c5)) (go_keep)
        (first
          | (go_at_call 16; refine (K2.out _).mono ?_; rintro e w6 ⟨B6, c6, rfl, k6⟩; have s6 := (S5.out.drew).stay k6.below; have q6 := And.intro (s6.blk 3 rfl).two.1 (And.intro (s6.blk 3 rfl).two.2 (s6.blk 5 rfl).two); have S6 := Lib.hid s6; clear k6 s6)
          | (go_at_call 19; refine (KT.out _ _ B4 c4 S6.out 2 rfl).mono ?_; rintro e w7 ⟨rfl, hb7⟩; have s7 := S6.out.stay hb7; have q7 := And.intro (s7.blk 3 rfl).two.1 (And.intro (s7.blk 3 rfl).two.2 (s7.blk 5 rfl).two); have S7 := Lib.hid s7; clear KT hb7 s7)
          | (go_at_call 19; refine (KT2.out _ _ B5 c5 S7.out 4 rfl).mono ?_; rintro e w8 ⟨rfl, hb8⟩; have s8 := S7.out.stay hb8; have q8 := And.intro (s8.blk 3 rfl).two.1 (And.intro (s8.blk 3 rfl).two.2 (s8.blk 5 rfl).two); have S8 := Lib.hid s8; clear KT2 hb8 s8))
      all_goals
        go_wp2_with fail
        go_ret
        exact ⟨rfl, S8.out.below⟩

theorem door_met (os : Os) (args : Array Value) : laidMetH Tryd.prog Rows.callBlankRow.laid ((World.doorLaid Tryd.prog 24 os).forCall (fun _ _ => 0) ⟨#[], args, []⟩).memory :=
  laidMetH_of_parts3 (fuel := 8) (laidMet_of_run' 8 (by kernel_rfl) (by kernel_rfl)) (by kernel_rfl) (by kernel_rfl)
set_option maxRecDepth 100000 in
theorem lifted (os : Os) (started : os.Started) (H : Type) (enc : TypeId × Value → H) :
    ReturnsInHanded {} Tryd.checked os 7 .any (fun w args => (Rows.callBlankSpec.pre enc Tryd.prog Tryd.f7 [] false w args ∧ laidMetH Tryd.prog Rows.callBlankRow.laid w) ∧ sizedMet enc Tryd.prog Tryd.f7 (OpenSpec.ofChange Rows.callBlankSpec) false w args) (Rows.callBlankSpec.post enc Tryd.prog Tryd.f7 false true false false) := by
  refine law_lifted_laid (C := Tryd.checked) (tb := 4) own started (by kernel_rfl) Tryd.func7
    (ChangeSpec.witness_shaped (enc := enc) (C := Tryd.checked) (os := os) (X := fun w _ => laidMetH Tryd.prog Rows.callBlankRow.laid w) false (World.doorLaid Tryd.prog 24 os) #[.slice none 0 0, .slice none 0 0, .string ByteArray.empty] 8 rfl (World.shaped_of_RefB (by kernel_rfl) (by kernel_rfl)) (by kernel_rfl) (by kernel_rfl) (by kernel_rfl) (door_met os _)) laid (by kernel_rfl) (by kernel_rfl) Tryd.underlying4 rfl ?_
  intro W base args ds ps hval0 hA0 hlt hL
  have hval : ∀ (j : Nat) t v, Tryd.f7.params[j]? = some t → args[j]? = some v → Value.okWide Tryd.prog W .any base t v := hval0
  have hA : DataW.TrodAll enc Tryd.prog W 0 (fun _ => true) true Tryd.f7.params.toList args.toList ds ps := hA0
  clear hA0 hval0
  rw [Tryd.params7] at hA hval
  obtain ⟨v0, vs0, d0, ds0, p0, q0, hargs, rfl, rfl, h0, r0⟩ := trodAll_cons hA
  obtain ⟨v1, vs1, d1, ds1, p1, q1, rfl, rfl, rfl, h1, r1⟩ := trodAll_cons r0
  obtain ⟨v2, vs2, d2, ds2, p2, q2, rfl, rfl, rfl, h2, r2⟩ := trodAll_cons r1
  obtain ⟨rfl, rfl, rfl⟩ := trodAll_nil r2
  obtain rfl : args = #[v0, v1, v2] := by cases args; simp_all
  obtain ⟨A0, n0, cap0, f0, rfl, le0, mx0, wf0, rd0⟩ := open_slice_ints Tryd.underlying36 Tryd.underlying5 (by kernel_rfl) (hval 0 36 v0 rfl rfl) h0
  obtain ⟨A1, n1, cap1, f1, rfl, le1, mx1, wf1, rd1⟩ := open_slice_ints Tryd.underlying36 Tryd.underlying5 (by kernel_rfl) (hval 1 36 v1 rfl rfl) h1
  obtain ⟨a2, rfl, rfl, rfl, w2⟩ := Go.ChangeMaps.open_string Tryd.underlying9 (hval 2 9 v2 rfl rfl) h2
  refine ⟨⟨rfl, rfl, rfl⟩, ?_⟩
  exact walk A0 n0 cap0 (fun j => (f0 j).toNat) A1 n1 cap1 (fun j => (f1 j).toNat) a2 W (tab_of hL) (by
    have e : (fun j => Value.int .u8 (f0 j)) = fun j => Value.int .u8 (((f0 j).toNat : Nat) : Int) := by
      funext j
      rw [Int.toNat_of_nonneg (bounds_u8 (wf0 j)).1]
    rw [← e]; exact rd0) (by
    have e : (fun j => Value.int .u8 (f1 j)) = fun j => Value.int .u8 (((f1 j).toNat : Nat) : Int) := by
      funext j
      rw [Int.toNat_of_nonneg (bounds_u8 (wf1 j)).1]
    rw [← e]; exact rd1)

theorem over : Rows.callBlankRow.holds Tryd.pinned (OpenSpec.ofChange Rows.callBlankSpec) :=
  OpenClaim.holds_of_wide 7 Tryd.f7 rfl rfl rfl rfl rfl rfl rfl ⟨rfl, rfl, rfl, rfl, rfl⟩ rfl rfl rfl rfl rfl (by kernel_rfl) Tryd.func7 (by kernel_rfl)
    (of_decide_eq_true (by kernel_rfl)) (by unfold Func.isWrapper; first | (rw [if_pos (by decide +kernel)]; kernel_rfl) | (rw [if_neg (by decide +kernel)]; exact ⟨rfl, rfl⟩))
    (fun os started H enc _ => lifted os started H enc)
theorem proved : Rows.CallBlankCardSaid :=
  Claim7.holds_tied_plain_at .later [] Rows.callBlankCard.laidKinds true Rows.callBlankCard.stood.harness Rows.callBlankCard.stood.looks
    over (fun _ h => by cases h) (by kernel_rfl) (fun _ h => by cases h) callBlank_row_tie rfl ⟨rfl, rfl⟩ (by kernel_rfl) rfl
    (fun f fn hf hfn => by
      obtain rfl : f = 7 := Option.some.inj ((show Tryd.prog.funcNamed Rows.callBlankRow.func = some 7 by kernel_rfl).symm.trans hf) |>.symm
      obtain rfl : fn = Tryd.f7 := (Option.some.inj (Tryd.func7.symm.trans hfn)).symm
      exact ⟨by kernel_rfl, fun j t ht => by
        rw [Tryd.params7] at ht
        have hm : t ∈ [36, 36, 9] := by simpa using Array.mem_of_getElem? ht
        have hall : ([36, 36, 9].all fun u => !Tryd.prog.wantsStandIn u) = true := by kernel_rfl
        exact (show Tryd.prog.wantsStandIn t = false by simpa using List.all_eq_true.1 hall t hm)⟩)
    (by kernel_rfl)
#print axioms proved
end Go.Proofs.YtgajcjacnnpfcaaDoor.callBlank
