/- Layer 21: a word's number. -/
import Derived.Test.YtlceanlenekanaaDoorCalC
namespace Go.Proofs.YtlceanlenekanaaDoor
open Go.RowKit
set_option linter.unusedVariables false
set_option maxRecDepth 100000
set_option maxHeartbeats 4000000
theorem number_o (s : ByteArray) (w : World) : Calls Tryd.prog 35 #[.string s] w fun e w' => e = .returned (numV s.data.toList) ∧ Below w.heap.size w w' := by
  by_cases l1 : (s.size : Int) < 1
  · rw [numV_no (mayN_long (by omega))]
    have d1 : decide ((s.size : Int) < 1) = true := decide_eq_true l1
    go_enter Tryd.func35, Tryd.ntmps35
    go_wp2
    go_ret2
    exact ⟨rfl, Below.refl _ _⟩
  have d1 : decide ((s.size : Int) < 1) = false := decide_eq_false l1
  by_cases l2 : (10 : Int) < (s.size : Int)
  · rw [numV_no (mayN_long (by omega))]
    have d2 : decide ((10 : Int) < (s.size : Int)) = true := decide_eq_true l2
    go_enter Tryd.func35, Tryd.ntmps35
    go_wp2
    go_ret2
    exact ⟨rfl, Below.refl _ _⟩
  have d2 : decide ((10 : Int) < (s.size : Int)) = false := decide_eq_false l2
  by_cases l3 : (1 : Int) < (s.size : Int) ∧ s.get! 0 = 48
  · rw [numV_no (mayN_lead (by omega) l3.2)]
    have d3 : decide ((1 : Int) < (s.size : Int)) = true := decide_eq_true l3.1
    have g0 : s.data.toList[0]? = some 48 := by
      have := get_bang s (pos := 0) (by omega)
      rw [l3.2] at this
      rw [this]; exact List.getElem?_eq_getElem _
    have hs0 : 0 < s.size := by omega
    have gg : s[0]'hs0 = 48 := by rw [← l3.2]; exact (get_bang s hs0).symm
    go_enter Tryd.func35, Tryd.ntmps35
    go_wp2
    go_ret2
    exact ⟨rfl, Below.refl _ _⟩
  have hs0 : 0 < s.size := by omega
  have hrest := mayN_rest (s := s) (by omega) (by omega) (fun h => l3 ⟨by omega, h.2⟩)
  have dz : ∀ (h1 : (1 : Int) < (s.size : Int)), (((s[0]'hs0).toNat : Int) == 48) = false := fun h1 => beq_eq_false_iff_ne.2 fun e => l3 ⟨h1, by
    rw [get_bang s hs0]
    have e2 : (s[0]'hs0).toNat = (48 : UInt8).toNat := by have : (48 : UInt8).toNat = 48 := rfl
                                                          omega
    exact UInt8.toNat_inj.1 e2⟩
  have key : Calls Tryd.prog 35 #[.string s] w fun e w' => e = .returned (numV s.data.toList) ∧ Below w.heap.size w w' := by
    go_enter Tryd.func35, Tryd.ntmps35
    have dd : (decide ((1 : Int) < (s.size : Int)) = true ∧ (((s[0]'hs0).toNat : Int) == 48) = false) ∨ decide ((1 : Int) < (s.size : Int)) = false := by
      by_cases l4 : (1 : Int) < (s.size : Int)
      · exact Or.inl ⟨decide_eq_true l4, dz l4⟩
      · exact Or.inr (decide_eq_false l4)
    rcases dd with ⟨d3, d4⟩ | d3 <;> (
      go_wp2
      go_loopw [4, 6] (fun x4 _ wr => ∃ pos : Nat, pos ≤ s.size ∧ (tk s pos).all isDg = true ∧ x4 = .int .i64 ((valB (tk s pos) : Nat) : Int) ∧ St w None wr [IterR w.heap.size s pos]) (fun _ _ wr => s.size - wr.iterPos w.heap.size)
      case atStart => exact ⟨0, Nat.zero_le _, rfl, rfl, (St.begin w).iter s 0⟩
      case round =>
        obtain ⟨pos, hps, had, rfl, hst⟩ := hrel
        have hit := hst.iter_at 0 rfl
        have ps1 := hst.iter_pos 0 rfl
        have vb : ((valB (tk s pos) : Nat) : Int) ≤ 9999999999 := by
          have := valB_max (l := tk s pos) (by rw [tk_len s hps]; omega) (tk_dg had)
          omega
        by_cases hp : pos < s.size
        · obtain ⟨r, hr⟩ : ∃ r, (Utf8.decode s pos).1 = r := ⟨_, rfl⟩
          obtain ⟨d, hd⟩ : ∃ d, (Utf8.decode s pos).2 = d := ⟨_, rfl⟩
          have hnx : ∀ ty, (Instr.next (.pointer (some ⟨w.heap.size, 0, none⟩)) true ty).run Tryd.prog wr = .ok (.tuple #[.bool true, .int .i64 pos, .int .i32 r]) (wr.iterAt w.heap.size s (pos + d)) := fun ty => by
            rw [← hr, ← hd]; exact Lib.run_next_any_at wr _ s pos ty hit hp
          have st2 := hst.iter_step 0 rfl (pos + d)
          have ps2 := st2.iter_pos 0 rfl
          by_cases a1 : (r : Int) < 48
          · have z1 : decide ((r : Int) < 48) = true := decide_eq_true a1
            go_wp2
            go_ret2
            exact ⟨congrArg _ (numV_no (by rw [hrest, step_none s hp (Or.inl (by omega))]; rfl)).symm, st2.below⟩
          have z1 : decide ((r : Int) < 48) = false := decide_eq_false a1
          by_cases a2 : (57 : Int) < (r : Int)
          · have z2 : decide ((57 : Int) < (r : Int)) = true := decide_eq_true a2
            go_wp2
            go_ret2
            exact ⟨congrArg _ (numV_no (by rw [hrest, step_none s hp (Or.inr (by omega))]; rfl)).symm, st2.below⟩
          have z2 : decide ((57 : Int) < (r : Int)) = false := decide_eq_false a2
          obtain ⟨s1, s2, s3⟩ := step_digit s hp (by omega) (by omega)
          rw [hd] at s1
          subst s1
          rw [hr] at s3
          go_wp2
          go_roundw
          case rel => exact ⟨pos + 1, by omega, by rw [s2]; exact had, by rw [s3]; go_num, st2⟩
          case measure => rw [ps1, ps2]; omega
        · obtain rfl : pos = s.size := by omega
          have hnx : ∀ ty, (Instr.next (.pointer (some ⟨w.heap.size, 0, none⟩)) true ty).run Tryd.prog wr = _ := fun ty => Lib.run_next_end_at wr _ s s.size ty hit hp
          rw [tk_size] at had vb
          rw [tk_size]
          by_cases v : (2147483647 : Int) < ((valB s.data.toList : Nat) : Int)
          · have z : decide ((2147483647 : Int) < ((valB s.data.toList : Nat) : Int)) = true := decide_eq_true v
            go_wp2
            go_ret2
            exact ⟨congrArg _ (numV_no (by rw [hrest, decide_eq_false (by omega), Bool.and_false])).symm, hst.below⟩
          · have z : decide ((2147483647 : Int) < ((valB s.data.toList : Nat) : Int)) = false := decide_eq_false v
            go_wp2
            go_ret2
            exact ⟨congrArg _ (numV_yes (by rw [hrest, had, decide_eq_true (by omega)]; rfl)).symm, hst.below⟩)
  exact key
end Go.Proofs.YtlceanlenekanaaDoor
