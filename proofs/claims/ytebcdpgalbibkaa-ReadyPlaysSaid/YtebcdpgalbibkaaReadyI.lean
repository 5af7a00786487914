/- Layer 15: two lists of numbers are the same; a new queue of the document's. -/
import Derived.Test.YtebcdpgalbibkaaReadyS
namespace Go.Proofs.Ytebcdpgalbibkaa
open Go.RowKit
set_option linter.unusedVariables false
set_option maxRecDepth 100000
set_option maxHeartbeats 1000000
section
variable {w0 w w' : World} {S0 S : Nat → Prop} {L : List Res} {r : Nat} {s s' : QS}
theorem Ints_c {A B : Option Addr} {m c c' : Nat} {l : List Nat} (hA : Lis w 3 1 (.slice A m c) m (ivs l)) (hB : Lis w 3 1 (.slice B m c') m (ivs l)) :
    Calls Try.prog 18 #[.slice A m c, .slice B m c'] w fun e w' => e = .returned (.bool true) ∧ Below w.heap.size w w' := by
  have HA := Lib.hid hA
  have HB := Lib.hid hB
  have hmx : m ≤ maxLen := by obtain ⟨_, _, _, h1, h2⟩ := hA.shape; omega
  have hlen : l.length = m := by have := hA.1; rw [ivs_len] at this; omega
  have HL := Lib.hid hlen
  unfold maxLen at hmx
  clear hA hB hlen
  go_enter Try.func18, Try.ntmps18
  go_wp2_with fail
  go_loopw [5] (fun x wr => ∃ k : Nat, k ≤ m ∧ x = .int .i64 (k : Int) ∧ Below w.heap.size w wr) (fun x _ => m - (intOf x).toNat)
  case atStart => exact ⟨0, by omega, rfl, Below.refl _ _⟩
  case round =>
    obtain ⟨k, hk, rfl, hbl⟩ := hrel
    by_cases hlt : k < m
    · obtain ⟨x, hx⟩ : ∃ x, l[k]? = some x := ⟨l[k]'(by have := HL.out; omega), List.getElem?_eq_getElem _⟩
      have la := HA.out.keep (w' := wr) fun g hg => hbl.block g (HA.out.lt hg)
      have lb := HB.out.keep (w' := wr) fun g hg => hbl.block g (HB.out.lt hg)
      obtain ⟨b, off, rfl, hc⟩ := la.reads.2.resolve_left (by omega)
      obtain ⟨b', off', rfl, hc'⟩ := lb.reads.2.resolve_left (by omega)
      have e1 := hc k _ (ivs_get hx)
      have e2 := hc' k _ (ivs_get hx)
      have u0 : (0 : Int) ≤ (k : Int) := by omega
      have u1 : (k : Int) < (m : Int) := by omega
      clear hx la lb hc hc'
      go_wp2_with fail
      go_quiet (fail)
      go_wp2_with fail
      go_roundw
      case rel => exact ⟨k + 1, by omega, by go_num, below_drewN hbl _⟩
      case measure => simp [intOf]; omega
    · obtain rfl : k = m := by omega
      go_wp2_with fail
      go_ret
      exact ⟨rfl, hbl⟩
theorem rq_new (H : St w0 S0 w L) : St w0 S0 (w.alloc (.cells #[.slice none 0 0] 29)) (L ++ [RQR w.heap.size QS.new.all]) := by
  have h := (H.box 29 #[.slice none 0 0]).lis_nil 56 2
  rw [List.append_assoc] at h
  have e : QS.new.all = [] := List.length_eq_zero_iff.1 (by have := QS.new_ok.len; omega)
  rw [e]
  exact h.fold (RQR.ok _ _) fun S h => ⟨none, 0, h⟩
end
end Go.Proofs.Ytebcdpgalbibkaa
