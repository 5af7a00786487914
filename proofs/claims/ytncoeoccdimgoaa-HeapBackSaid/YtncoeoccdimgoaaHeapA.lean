/- Layer 3: the answers that the document fixes. -/
import Derived.Test.YtncoeoccdimgoaaHeapJ
namespace Go.Proofs.Ytncoeoccdimgoaa
open Go.RowKit
set_option linter.unusedVariables false
set_option maxRecDepth 100000
set_option maxHeartbeats 1000000
theorem HM.put_some {M : HM} {id j : Nat} {x y : Int} : (M.put id x) j = some y ↔ (j = id ∧ y = x) ∨ (j ≠ id ∧ M j = some y) := by
  unfold HM.put
  by_cases e : j = id
  · rw [if_pos e]
    exact ⟨fun h => Or.inl ⟨e, by injection h with h; exact h.symm⟩, fun h => by
      rcases h with ⟨_, h⟩ | ⟨h, _⟩
      · rw [h]
      · exact absurd e h⟩
  · rw [if_neg e]
    exact ⟨fun h => Or.inr ⟨e, h⟩, fun h => by
      rcases h with ⟨h, _⟩ | ⟨_, h⟩
      · exact absurd h e
      · exact h⟩
theorem HM.del_some {M : HM} {id j : Nat} {y : Int} : (M.del id) j = some y ↔ j ≠ id ∧ M j = some y := by
  unfold HM.del
  by_cases e : j = id
  · rw [if_pos e]; exact ⟨(fun h => by cases h), fun h => absurd e h.1⟩
  · rw [if_neg e]; exact ⟨fun h => ⟨e, h⟩, fun h => h.2⟩
def hA0 : HM := fun _ => none
def hA1 : HM := hA0.put 5 9
def hA2 : HM := hA1.put 3 9
def hA3 : HM := hA2.put 7 1
def hA4 : HM := hA3.del 7
def hA5 : HM := hA4.del 3
theorem hp1 : HPutP 9 hA0 5 9 0 hA1 := Or.inr ⟨5, by omega, rfl, rfl, rfl⟩
theorem hp2 : HPutP 9 hA1 3 9 0 hA2 := Or.inr ⟨3, by omega, rfl, rfl, rfl⟩
theorem hp3 : HPutP 9 hA2 7 1 0 hA3 := Or.inr ⟨7, by omega, rfl, rfl, rfl⟩
theorem hA3_some {j : Nat} {y : Int} (h : hA3 j = some y) : (j = 7 ∧ y = 1) ∨ (j = 3 ∧ y = 9) ∨ (j = 5 ∧ y = 9) := by
  rcases HM.put_some.1 h with h | ⟨_, h⟩
  · exact Or.inl h
  · rcases HM.put_some.1 h with h | ⟨_, h⟩
    · exact Or.inr (Or.inl h)
    · rcases HM.put_some.1 h with h | ⟨_, h⟩
      · exact Or.inr (Or.inr h)
      · cases h
theorem hf4 : HTakeP hA3 7 1 0 hA4 := ⟨Or.inr ⟨7, rfl, fun j y h => by
  rcases hA3_some h with ⟨rfl, rfl⟩ | ⟨rfl, rfl⟩ | ⟨rfl, rfl⟩ <;> unfold hlt <;> omega, rfl, rfl⟩, Or.inr ⟨rfl, rfl⟩⟩
theorem hf5 : HTakeP hA4 3 9 0 hA5 := ⟨Or.inr ⟨3, rfl, fun j y h => by
  obtain ⟨h0, h⟩ := HM.del_some.1 h
  rcases hA3_some h with ⟨rfl, rfl⟩ | ⟨rfl, rfl⟩ | ⟨rfl, rfl⟩ <;> unfold hlt <;> omega, rfl, rfl⟩, Or.inr ⟨rfl, rfl⟩⟩
theorem hk6 : KeyP 9 hA5 7 0 6 := Or.inr ⟨fun i h => by
  obtain rfl : i = 7 := by omega
  rfl, rfl, rfl⟩
theorem hc7 : 1 = hA5.cnt 9 := by decide
theorem hp8 : HPutP 9 hA5 9 1 1 hA5 := Or.inl ⟨by omega, rfl, rfl⟩
section
variable {w0 w : World} {S S0 : Nat → Prop} {N L : List Res} {h n : Nat}
theorem awake_any (w : World) : Calls Try.prog 9 #[] w fun e w' => e = .returned (.bool true) ∧ Below w.heap.size w w' := by
  have H := Lib.hid (New_o (n := 9) (St.begin w) (by omega) (by omega))
  go_enter Try.func9, Try.ntmps9
  go_wp2_with fail
  refine H.out.mono ?_
  rintro e w1 ⟨q, rfl, s1'⟩
  have s1 : St w None w1 [HeapR q 9 hA0] := s1'
  have C1 := Lib.hid (Put_o s1 0 rfl hp1)
  clear s1 s1' H
  go_wp2_with fail
  refine C1.out.mono ?_
  rintro e w2 ⟨rfl, s2⟩
  have C2 := Lib.hid (Put_o s2 0 rfl hp2)
  clear C1 s2
  go_wp2_with fail
  refine C2.out.mono ?_
  rintro e w3 ⟨rfl, s3⟩
  have C3 := Lib.hid (Put_o s3 0 rfl hp3)
  clear C2 s3
  go_wp2_with fail
  refine C3.out.mono ?_
  rintro e w4 ⟨rfl, s4⟩
  have C4 := Lib.hid (Take_o s4 0 rfl hf4)
  clear C3 s4
  go_wp2_with fail
  refine C4.out.mono ?_
  rintro e w5 ⟨rfl, s5⟩
  have C5 := Lib.hid (Take_o s5 0 rfl hf5)
  clear C4 s5
  go_wp2_with fail
  refine C5.out.mono ?_
  rintro e w6 ⟨rfl, s6⟩
  have C6 := Lib.hid (Key_o s6 0 rfl hk6)
  have S6 := Lib.hid s6
  clear C5 s6
  go_wp2_with fail
  refine C6.out.mono ?_
  rintro e w7 ⟨rfl, rfl⟩
  have C7 := Lib.hid (Len_o S6.out 0 rfl hc7)
  clear C6
  go_wp2_with fail
  refine C7.out.mono ?_
  rintro e w8 ⟨rfl, rfl⟩
  have C8 := Lib.hid (Put_o S6.out 0 rfl hp8)
  clear C7 S6
  go_wp2_with fail
  refine C8.out.mono ?_
  rintro e w9 ⟨rfl, s9⟩
  go_wp2_with fail
  go_ret
  exact ⟨rfl, s9.below⟩
theorem awake_o (H : St w0 S0 w L) : Calls Try.prog 9 #[] w fun e w' => e = .returned (.bool true) ∧ St w0 S0 w' L := looks (awake_any w) H
end
end Go.Proofs.Ytncoeoccdimgoaa
