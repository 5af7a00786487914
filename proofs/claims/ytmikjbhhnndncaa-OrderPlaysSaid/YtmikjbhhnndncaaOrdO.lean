/- Layer 18: the document's 'the same requests'. -/
import Derived.Test.YtmikjbhhnndncaaOrdN
import Derived.Deep.QuietTactic
namespace Go.Proofs.Ytmikjbhhnndncaa
open Go.RowKit
set_option linter.unusedVariables false
set_option maxRecDepth 100000
set_option maxHeartbeats 2000000
section
variable {w0 w w' : World} {S0 S : Nat → Prop} {N L : List Res} {q : Nat} {s s' : OSt}
theorem rSame_c {A B : Option Addr} {c d n i j : Nat} {l : List Wt} (H : St w0 S0 w L) (hi : L[i]? = some (LisR 32 3 (.slice A n c) n (ovs l))) (hj : L[j]? = some (LisR 32 3 (.slice B n d) n (ovs l))) (hn : n ≤ 1000) :
    Calls Try.prog 22 #[.slice A n c, .slice B n d] w fun e w' => e = .returned (.bool true) ∧ Below w.heap.size w w' := by
  have HH := Lib.hid H
  have HL := Lib.hid (lis_len (H.lis i hi))
  have z0 : ((n : Int) != (n : Int)) = false := by simp
  clear H
  go_enter Try.func22, Try.ntmps22
  go_wp2_with fail
  go_loopw [5] (fun t wr => ∃ k : Nat, k ≤ n ∧ t = .int .i64 (k : Int) ∧ Below w.heap.size w wr) (fun t _ => n - (intOf t).toNat)
  case atStart => exact ⟨0, by omega, rfl, Below.refl _ _⟩
  case round =>
  obtain ⟨k, hk, rfl, hb⟩ := hrel
  have sr := HH.out.stay hb
  have HB := Lib.hid hb
  by_cases hkn : k < n
  · obtain ⟨x, hx⟩ : ∃ x, l[k]? = some x := ⟨_, List.getElem?_eq_getElem (by rw [HL.out]; exact hkn)⟩
    obtain ⟨b, o, rfl, -, m0, m1, m2⟩ := want_at (sr.lis i hi) hx
    obtain ⟨b', o', rfl, -, g0, g1, g2⟩ := want_at (sr.lis j hj) hx
    have t1 : decide ((k : Int) < (n : Int)) = true := decide_eq_true (by omega)
    have t1' : decide (k < n) = true := decide_eq_true hkn
    have t2 : (0 : Int) ≤ (k : Int) := by omega
    have t3 : (k : Int) < (n : Int) := by omega
    have y1 : (x.id == x.id) = true := beq_self_eq_true _
    have y2 : (x.dead == x.dead) = true := beq_self_eq_true _
    have y3 : (x.track == x.track) = true := beq_self_eq_true _
    clear sr hb hx hi hj
    go_wp2_with fail
    go_quiet (fail)
    go_wp2_with fail
    go_roundw
    case rel => exact ⟨k + 1, by omega, by go_num, below_drewN HB.out _⟩
    case measure => simp [intOf]; omega
  · have t1 : decide ((k : Int) < (n : Int)) = false := decide_eq_false (by omega)
    have t1' : decide (k < n) = false := decide_eq_false hkn
    clear sr hb
    go_wp2_with fail
    go_ret
    exact ⟨rfl, HB.out⟩
end
end Go.Proofs.Ytmikjbhhnndncaa
