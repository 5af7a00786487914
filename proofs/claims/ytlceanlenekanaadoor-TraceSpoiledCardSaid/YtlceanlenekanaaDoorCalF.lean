/- Layer 21: the document's names and numbers. -/
import Derived.Test.YtlceanlenekanaaDoorCalD
namespace Go.Proofs.YtlceanlenekanaaDoor
open Go.RowKit
set_option linter.unusedVariables false
set_option maxRecDepth 100000
set_option maxHeartbeats 4000000
theorem byte_digit {s : ByteArray} {pos : Nat} (h : pos < s.size) (h1 : 48 ≤ (s[pos]'h).toNat) (h2 : (s[pos]'h).toNat ≤ 57) :
    (tk s (pos + 1)).all isDg = (tk s pos).all isDg ∧ valB (tk s (pos + 1)) = 10 * valB (tk s pos) + ((s[pos]'h).toNat - 48) := by
  have e : s.get! pos = s[pos]'h := get_bang s h
  refine ⟨?_, ?_⟩
  · rw [tk_add, bt_one s h, List.all_append, e]
    have : isDg (s[pos]'h) = true := decide_eq_true ⟨h1, h2⟩
    simp [this]
  · rw [tk_add, bt_one s h, e]
    show valF 0 _ = _
    rw [valF_snoc]; rfl
theorem byte_none {s : ByteArray} {pos : Nat} (h : pos < s.size) (hr : (s[pos]'h).toNat < 48 ∨ 57 < (s[pos]'h).toNat) : s.data.toList.all isDg = false := by
  have hm : s[pos]'h ∈ s.data.toList := by rw [← show s.get! pos = s[pos]'h from get_bang s h, get_bang s h]; exact List.getElem_mem _
  rw [Bool.eq_false_iff]
  intro ha
  have := of_decide_eq_true (List.all_eq_true.1 ha _ hm)
  omega
theorem rnumber_o (s : ByteArray) (w : World) : Calls Tryd.prog 38 #[.string s] w fun e w' => e = .returned (numV s.data.toList) ∧ w = w' := by
  by_cases l1 : (s.size : Int) < 1
  · rw [numV_no (mayN_long (by omega))]
    have d1 : decide ((s.size : Int) < 1) = true := decide_eq_true l1
    go_enter Tryd.func38, Tryd.ntmps38
    go_wp2
    go_ret2
    exact ⟨rfl, rfl⟩
  have d1 : decide ((s.size : Int) < 1) = false := decide_eq_false l1
  by_cases l2 : (10 : Int) < (s.size : Int)
  · rw [numV_no (mayN_long (by omega))]
    have d2 : decide ((10 : Int) < (s.size : Int)) = true := decide_eq_true l2
    go_enter Tryd.func38, Tryd.ntmps38
    go_wp2
    go_ret2
    exact ⟨rfl, rfl⟩
  have d2 : decide ((10 : Int) < (s.size : Int)) = false := decide_eq_false l2
  by_cases l3 : (1 : Int) < (s.size : Int) ∧ s.get! 0 = 48
  · rw [numV_no (mayN_lead (by omega) l3.2)]
    have d3 : decide ((1 : Int) < (s.size : Int)) = true := decide_eq_true l3.1
    have g0 : s.data.toList[0]? = some 48 := by
      have := get_bang s (pos := 0) (by omega)
      rw [l3.2] at this
      rw [this]; exact List.getElem?_eq_getElem _
    have hs0 : 0 < s.size := by omega
    have gg : s[0]'hs0 = 48 := by rw [← l3.2]; exact (get_bang s hs0).symm
    go_enter Tryd.func38, Tryd.ntmps38
    go_wp2
    go_ret2
    exact ⟨rfl, rfl⟩
  have hs0 : 0 < s.size := by omega
  have hrest := mayN_rest (s := s) (by omega) (by omega) (fun h => l3 ⟨by omega, h.2⟩)
  have dz : ∀ (h1 : (1 : Int) < (s.size : Int)), (((s[0]'hs0).toNat : Int) == 48) = false := fun h1 => beq_eq_false_iff_ne.2 fun e => l3 ⟨h1, by
    rw [get_bang s hs0]
    have e2 : (s[0]'hs0).toNat = (48 : UInt8).toNat := by have : (48 : UInt8).toNat = 48 := rfl
                                                          omega
    exact UInt8.toNat_inj.1 e2⟩
  have key : Calls Tryd.prog 38 #[.string s] w fun e w' => e = .returned (numV s.data.toList) ∧ w = w' := by
    go_enter Tryd.func38, Tryd.ntmps38
    have dd : (decide ((1 : Int) < (s.size : Int)) = true ∧ (((s[0]'hs0).toNat : Int) == 48) = false) ∨ decide ((1 : Int) < (s.size : Int)) = false := by
      by_cases l4 : (1 : Int) < (s.size : Int)
      · exact Or.inl ⟨decide_eq_true l4, dz l4⟩
      · exact Or.inr (decide_eq_false l4)
    rcases dd with ⟨d3, d4⟩ | d3 <;> (
      go_wp2
      go_loopw [4, 5] (fun x4 x5 wr => ∃ pos : Nat, pos ≤ s.size ∧ (tk s pos).all isDg = true ∧ x4 = .int .i64 ((valB (tk s pos) : Nat) : Int) ∧ x5 = .int .i64 (pos : Int) ∧ wr = w) (fun _ x5 _ => s.size - (intOf x5).toNat)
      case atStart => exact ⟨0, Nat.zero_le _, rfl, rfl, rfl, rfl⟩
      case round =>
        obtain ⟨pos, hps, had, rfl, rfl, rfl⟩ := hrel
        have vb : ((valB (tk s pos) : Nat) : Int) ≤ 9999999999 := by
          have := valB_max (l := tk s pos) (by rw [tk_len s hps]; omega) (tk_dg had)
          omega
        by_cases hp : pos < s.size
        · have z0 : decide ((pos : Int) < (s.size : Int)) = true := decide_eq_true (by omega)
          by_cases a1 : (((s[pos]'hp).toNat : Nat) : Int) < 48
          · have z1 : decide ((((s[pos]'hp).toNat : Nat) : Int) < 48) = true := decide_eq_true a1
            go_wp2
            go_ret2
            exact ⟨congrArg _ (numV_no (by rw [hrest, byte_none hp (Or.inl (by omega))]; rfl)).symm, rfl⟩
          have z1 : decide ((((s[pos]'hp).toNat : Nat) : Int) < 48) = false := decide_eq_false a1
          by_cases a2 : (57 : Int) < (((s[pos]'hp).toNat : Nat) : Int)
          · have z2 : decide ((57 : Int) < (((s[pos]'hp).toNat : Nat) : Int)) = true := decide_eq_true a2
            go_wp2
            go_ret2
            exact ⟨congrArg _ (numV_no (by rw [hrest, byte_none hp (Or.inr (by omega))]; rfl)).symm, rfl⟩
          have z2 : decide ((57 : Int) < (((s[pos]'hp).toNat : Nat) : Int)) = false := decide_eq_false a2
          obtain ⟨s2, s3⟩ := byte_digit hp (by omega) (by omega)
          go_wp2
          go_roundw
          case rel => exact ⟨pos + 1, by omega, by rw [s2]; exact had, by rw [s3]; go_num, by go_num, by first | trivial | rfl⟩
          case measure => simp [intOf]; omega
        · obtain rfl : pos = s.size := by omega
          have z0 : decide ((s.size : Int) < (s.size : Int)) = false := decide_eq_false (by omega)
          rw [tk_size] at had vb
          rw [tk_size]
          by_cases v : (2147483647 : Int) < ((valB s.data.toList : Nat) : Int)
          · have z : decide ((2147483647 : Int) < ((valB s.data.toList : Nat) : Int)) = true := decide_eq_true v
            go_wp2
            go_ret2
            exact ⟨congrArg _ (numV_no (by rw [hrest, decide_eq_false (by omega), Bool.and_false])).symm, rfl⟩
          · have z : decide ((2147483647 : Int) < ((valB s.data.toList : Nat) : Int)) = false := decide_eq_false v
            go_wp2
            go_ret2
            exact ⟨congrArg _ (numV_yes (by rw [hrest, had, decide_eq_true (by omega)]; rfl)).symm, rfl⟩)
  exact key
end Go.Proofs.YtlceanlenekanaaDoor
