/- Layer 21: the document's names and numbers. -/
import Derived.Test.YtgajcjacnnpfcaaDoorCalD
namespace Go.Proofs.YtgajcjacnnpfcaaDoor
open Go.RowKit
set_option linter.unusedVariables false
set_option maxRecDepth 100000
set_option maxHeartbeats 4000000
theorem rnums_o (s : ByteArray) (w : World) : Calls Tryd.prog 14 #[.string s] w fun e w' => e = .returned (numsV s.data.toList) ∧ w = w' := by
  by_cases h0 : s.data.toList = [115, 116, 97, 114, 116]
  · rw [h0]
    obtain rfl := lit_eq h0
    clear h0
    go_enter Tryd.func14, Tryd.ntmps14
    go_wp2
    go_ret2
    exact ⟨rfl, rfl⟩
  have z0 := lit_ne h0
  by_cases h1 : s.data.toList = [116, 97, 107, 101]
  · rw [h1]
    obtain rfl := lit_eq h1
    clear h1
    go_enter Tryd.func14, Tryd.ntmps14
    go_wp2
    go_ret2
    exact ⟨rfl, rfl⟩
  have z1 := lit_ne h1
  by_cases h2 : s.data.toList = [114, 101, 97, 112]
  · rw [h2]
    obtain rfl := lit_eq h2
    clear h2
    go_enter Tryd.func14, Tryd.ntmps14
    go_wp2
    go_ret2
    exact ⟨rfl, rfl⟩
  have z2 := lit_ne h2
  by_cases h3 : s.data.toList = [102, 114, 101, 101]
  · rw [h3]
    obtain rfl := lit_eq h3
    clear h3
    go_enter Tryd.func14, Tryd.ntmps14
    go_wp2
    go_ret2
    exact ⟨rfl, rfl⟩
  have z3 := lit_ne h3
  by_cases h4 : s.data.toList = [110, 111, 119]
  · rw [h4]
    obtain rfl := lit_eq h4
    clear h4
    go_enter Tryd.func14, Tryd.ntmps14
    go_wp2
    go_ret2
    exact ⟨rfl, rfl⟩
  have z4 := lit_ne h4
  by_cases h5 : s.data.toList = [116, 105, 99, 107]
  · rw [h5]
    obtain rfl := lit_eq h5
    clear h5
    go_enter Tryd.func14, Tryd.ntmps14
    go_wp2
    go_ret2
    exact ⟨rfl, rfl⟩
  have z5 := lit_ne h5
  by_cases h6 : s.data.toList = [114, 97, 105, 115, 101]
  · rw [h6]
    obtain rfl := lit_eq h6
    clear h6
    go_enter Tryd.func14, Tryd.ntmps14
    go_wp2
    go_ret2
    exact ⟨rfl, rfl⟩
  have z6 := lit_ne h6
  by_cases h7 : s.data.toList = [109, 97, 115, 107]
  · rw [h7]
    obtain rfl := lit_eq h7
    clear h7
    go_enter Tryd.func14, Tryd.ntmps14
    go_wp2
    go_ret2
    exact ⟨rfl, rfl⟩
  have z7 := lit_ne h7
  by_cases h8 : s.data.toList = [117, 110, 109, 97, 115, 107]
  · rw [h8]
    obtain rfl := lit_eq h8
    clear h8
    go_enter Tryd.func14, Tryd.ntmps14
    go_wp2
    go_ret2
    exact ⟨rfl, rfl⟩
  have z8 := lit_ne h8
  by_cases h9 : s.data.toList = [103, 101, 116]
  · rw [h9]
    obtain rfl := lit_eq h9
    clear h9
    go_enter Tryd.func14, Tryd.ntmps14
    go_wp2
    go_ret2
    exact ⟨rfl, rfl⟩
  have z9 := lit_ne h9
  by_cases h10 : s.data.toList = [115, 104, 97, 114, 101]
  · rw [h10]
    obtain rfl := lit_eq h10
    clear h10
    go_enter Tryd.func14, Tryd.ntmps14
    go_wp2
    go_ret2
    exact ⟨rfl, rfl⟩
  have z10 := lit_ne h10
  by_cases h11 : s.data.toList = [100, 114, 111, 112]
  · rw [h11]
    obtain rfl := lit_eq h11
    clear h11
    go_enter Tryd.func14, Tryd.ntmps14
    go_wp2
    go_ret2
    exact ⟨rfl, rfl⟩
  have z11 := lit_ne h11
  by_cases h12 : s.data.toList = [99, 97, 110, 99, 101, 108]
  · rw [h12]
    obtain rfl := lit_eq h12
    clear h12
    go_enter Tryd.func14, Tryd.ntmps14
    go_wp2
    go_ret2
    exact ⟨rfl, rfl⟩
  have z12 := lit_ne h12
  by_cases h13 : s.data.toList = [114, 101, 108, 101, 97, 115, 101]
  · rw [h13]
    obtain rfl := lit_eq h13
    clear h13
    go_enter Tryd.func14, Tryd.ntmps14
    go_wp2
    go_ret2
    exact ⟨rfl, rfl⟩
  have z13 := lit_ne h13
  by_cases h14 : s.data.toList = [119, 97, 107, 101]
  · rw [h14]
    obtain rfl := lit_eq h14
    clear h14
    go_enter Tryd.func14, Tryd.ntmps14
    go_wp2
    go_ret2
    exact ⟨rfl, rfl⟩
  have z14 := lit_ne h14
  by_cases h15 : s.data.toList = [102, 105, 110, 105, 115, 104]
  · rw [h15]
    obtain rfl := lit_eq h15
    clear h15
    go_enter Tryd.func14, Tryd.ntmps14
    go_wp2
    go_ret2
    exact ⟨rfl, rfl⟩
  have z15 := lit_ne h15
  by_cases h16 : s.data.toList = [115, 117, 98, 109, 105, 116]
  · rw [h16]
    obtain rfl := lit_eq h16
    clear h16
    go_enter Tryd.func14, Tryd.ntmps14
    go_wp2
    go_ret2
    exact ⟨rfl, rfl⟩
  have z16 := lit_ne h16
  have e : numsV s.data.toList = .tuple #[.int .i64 0, .bool false] := by
    have : nm s.data.toList = none := by
      unfold nm nmS
      simp only [List.lookup_cons, List.lookup_nil, beq_false_of_ne h0, beq_false_of_ne h1, beq_false_of_ne h2, beq_false_of_ne h3, beq_false_of_ne h4, beq_false_of_ne h5, beq_false_of_ne h6, beq_false_of_ne h7, beq_false_of_ne h8, beq_false_of_ne h9, beq_false_of_ne h10, beq_false_of_ne h11, beq_false_of_ne h12, beq_false_of_ne h13, beq_false_of_ne h14, beq_false_of_ne h15, beq_false_of_ne h16]
    unfold numsV
    rw [this]; rfl
  rw [e]
  clear e h0 h1 h2 h3 h4 h5 h6 h7 h8 h9 h10 h11 h12 h13 h14 h15 h16
  go_enter Tryd.func14, Tryd.ntmps14
  go_wp2
  go_ret2
  exact ⟨rfl, rfl⟩
theorem byte_digit {s : ByteArray} {pos : Nat} (h : pos < s.size) (h1 : 48 ≤ (s[pos]'h).toNat) (h2 : (s[pos]'h).toNat ≤ 57) :
    (tk s (pos + 1)).all isDg = (tk s pos).all isDg ∧ valB (tk s (pos + 1)) = 10 * valB (tk s pos) + ((s[pos]'h).toNat - 48) := by
  have e : s.get! pos = s[pos]'h := get_bang s h
  refine ⟨?_, ?_⟩
  · rw [tk_add, bt_one s h, List.all_append, e]
    have : isDg (s[pos]'h) = true := decide_eq_true ⟨h1, h2⟩
    simp [this]
  · rw [tk_add, bt_one s h, e]
    show valF 0 _ = _
    rw [valF_snoc]; rfl
theorem byte_none {s : ByteArray} {pos : Nat} (h : pos < s.size) (hr : (s[pos]'h).toNat < 48 ∨ 57 < (s[pos]'h).toNat) : s.data.toList.all isDg = false := by
  have hm : s[pos]'h ∈ s.data.toList := by rw [← show s.get! pos = s[pos]'h from get_bang s h, get_bang s h]; exact List.getElem_mem _
  rw [Bool.eq_false_iff]
  intro ha
  have := of_decide_eq_true (List.all_eq_true.1 ha _ hm)
  omega
theorem rnumber_o (s : ByteArray) (w : World) : Calls Tryd.prog 12 #[.string s] w fun e w' => e = .returned (numV s.data.toList) ∧ w = w' := by
  by_cases l1 : (s.size : Int) < 1
  · rw [numV_no (mayN_long (by omega))]
    have d1 : decide ((s.size : Int) < 1) = true := decide_eq_true l1
    go_enter Tryd.func12, Tryd.ntmps12
    go_wp2
    go_ret2
    exact ⟨rfl, rfl⟩
  have d1 : decide ((s.size : Int) < 1) = false := decide_eq_false l1
  by_cases l2 : (10 : Int) < (s.size : Int)
  · rw [numV_no (mayN_long (by omega))]
    have d2 : decide ((10 : Int) < (s.size : Int)) = true := decide_eq_true l2
    go_enter Tryd.func12, Tryd.ntmps12
    go_wp2
    go_ret2
    exact ⟨rfl, rfl⟩
  have d2 : decide ((10 : Int) < (s.size : Int)) = false := decide_eq_false l2
  by_cases l3 : (1 : Int) < (s.size : Int) ∧ s.get! 0 = 48
  · rw [numV_no (mayN_lead (by omega) l3.2)]
    have d3 : decide ((1 : Int) < (s.size : Int)) = true := decide_eq_true l3.1
    have g0 : s.data.toList[0]? = some 48 := by
      have := get_bang s (pos := 0) (by omega)
      rw [l3.2] at this
      rw [this]; exact List.getElem?_eq_getElem _
    have hs0 : 0 < s.size := by omega
    have gg : s[0]'hs0 = 48 := by rw [← l3.2]; exact (get_bang s hs0).symm
    go_enter Tryd.func12, Tryd.ntmps12
    go_wp2
    go_ret2
    exact ⟨rfl, rfl⟩
  have hs0 : 0 < s.size := by omega
  have hrest := mayN_rest (s := s) (by omega) (by omega) (fun h => l3 ⟨by omega, h.2⟩)
  have dz : ∀ (h1 : (1 : Int) < (s.size : Int)), (((s[0]'hs0).toNat : Int) == 48) = false := fun h1 => beq_eq_false_iff_ne.2 fun e => l3 ⟨h1, by
    rw [get_bang s hs0]
    have e2 : (s[0]'hs0).toNat = (48 : UInt8).toNat := by have : (48 : UInt8).toNat = 48 := rfl
                                                          omega
    exact UInt8.toNat_inj.1 e2⟩
  have key : Calls Tryd.prog 12 #[.string s] w fun e w' => e = .returned (numV s.data.toList) ∧ w = w' := by
    go_enter Tryd.func12, Tryd.ntmps12
    have dd : (decide ((1 : Int) < (s.size : Int)) = true ∧ (((s[0]'hs0).toNat : Int) == 48) = false) ∨ decide ((1 : Int) < (s.size : Int)) = false := by
      by_cases l4 : (1 : Int) < (s.size : Int)
      · exact Or.inl ⟨decide_eq_true l4, dz l4⟩
      · exact Or.inr (decide_eq_false l4)
    rcases dd with ⟨d3, d4⟩ | d3 <;> (
      go_wp2
      go_loopw [4, 5] (fun x4 x5 wr => ∃ pos : Nat, pos ≤ s.size ∧ (tk s pos).all isDg = true ∧ x4 = .int .i64 ((valB (tk s pos) : Nat) : Int) ∧ x5 = .int .i64 (pos : Int) ∧ wr = w) (fun _ x5 _ => s.size - (intOf x5).toNat)
      case atStart => exact ⟨0, Nat.zero_le _, rfl, rfl, rfl, rfl⟩
      case round =>
        obtain ⟨pos, hps, had, rfl, rfl, rfl⟩ := hrel
        have vb : ((valB (tk s pos) : Nat) : Int) ≤ 9999999999 := by
          have := valB_max (l := tk s pos) (by rw [tk_len s hps]; omega) (tk_dg had)
          omega
        by_cases hp : pos < s.size
        · have z0 : decide ((pos : Int) < (s.size : Int)) = true := decide_eq_true (by omega)
          by_cases a1 : (((s[pos]'hp).toNat : Nat) : Int) < 48
          · have z1 : decide ((((s[pos]'hp).toNat : Nat) : Int) < 48) = true := decide_eq_true a1
            go_wp2
            go_ret2
            exact ⟨congrArg _ (numV_no (by rw [hrest, byte_none hp (Or.inl (by omega))]; rfl)).symm, rfl⟩
          have z1 : decide ((((s[pos]'hp).toNat : Nat) : Int) < 48) = false := decide_eq_false a1
          by_cases a2 : (57 : Int) < (((s[pos]'hp).toNat : Nat) : Int)
          · have z2 : decide ((57 : Int) < (((s[pos]'hp).toNat : Nat) : Int)) = true := decide_eq_true a2
            go_wp2
            go_ret2
            exact ⟨congrArg _ (numV_no (by rw [hrest, byte_none hp (Or.inr (by omega))]; rfl)).symm, rfl⟩
          have z2 : decide ((57 : Int) < (((s[pos]'hp).toNat : Nat) : Int)) = false := decide_eq_false a2
          obtain ⟨s2, s3⟩ := byte_digit hp (by omega) (by omega)
          go_wp2
          go_roundw
          case rel => exact ⟨pos + 1, by omega, by rw [s2]; exact had, by rw [s3]; go_num, by go_num, by first | trivial | rfl⟩
          case measure => simp [intOf]; omega
        · obtain rfl : pos = s.size := by omega
          have z0 : decide ((s.size : Int) < (s.size : Int)) = false := decide_eq_false (by omega)
          rw [tk_size] at had vb
          rw [tk_size]
          by_cases v : (2147483647 : Int) < ((valB s.data.toList : Nat) : Int)
          · have z : decide ((2147483647 : Int) < ((valB s.data.toList : Nat) : Int)) = true := decide_eq_true v
            go_wp2
            go_ret2
            exact ⟨congrArg _ (numV_no (by rw [hrest, decide_eq_false (by omega), Bool.and_false])).symm, rfl⟩
          · have z : decide ((2147483647 : Int) < ((valB s.data.toList : Nat) : Int)) = false := decide_eq_false v
            go_wp2
            go_ret2
            exact ⟨congrArg _ (numV_yes (by rw [hrest, had, decide_eq_true (by omega)]; rfl)).symm, rfl⟩)
  exact key
end Go.Proofs.YtgajcjacnnpfcaaDoor
