/- Layer 16: what loads take of a span. -/
import Derived.Test.YtdemhhmceiaohaaRtaU
namespace Go.Proofs.Ytdemhhmceiaohaa
open Go.RowKit
set_option linter.unusedVariables false
set_option maxRecDepth 100000
set_option maxHeartbeats 2000000
theorem tkn_pos {l : List Tk} (h : TkOK l) (hl : l ≠ []) {s : Nat} (hs : 1 ≤ s) : 1 ≤ tkn l s := by
  cases l with
  | nil => exact absurd rfl hl
  | cons a l =>
    have h1 := h.head
    have h2 := tkn_mem (l := a :: l) (a := a) (by simp) s
    have h3 := upN_pos (s := s) (p := a.2) (by omega) hs
    have h4 := Nat.mul_le_mul h3 h1.1
    omega
theorem extra_c {w : World} {A : Option Addr} {m cap : Nat} {S : Nat → Ld} (rd : Ls w A m S) (ht : LTyped m S) (hS : LOK m S) (x : Int) (x0 : 0 ≤ x) (x1 : x ≤ 1073741824) (r : Int) (hr : r = (min (tkn (ldl S m) x.toNat) x.toNat : Nat)) :
    Calls Try.prog 13 #[.slice A m cap, .int .u64 x] w fun e w' => e = .returned (.int .u64 r) ∧ Below w.heap.size w w' := by
  have hm : m ≤ maxLen := by have := hS.1; unfold maxLen; omega
  have MS := Lib.hid (smay_c (cap := cap) rd ht hm true (decide_eq_true hS).symm)
  have TK := Lib.hid (fun W (hW : Below w.heap.size w W) => takers_c (cap := cap) (rd.below hW) hS)
  obtain ⟨n, hn⟩ : ∃ n : Int, n = (tkn (ldl S m) x.toNat : Nat) := ⟨_, rfl⟩
  have d0 : decide (1073741824 < x) = false := decide_eq_false (by omega)
  have OK := ldl_ok hS.2 m (Nat.le_refl _)
  have LL := ldl_len S m
  have M16 := hS.1
  have HN := Lib.hid hn
  have TC := Lib.hid (fun (W : World) (C : Option Addr) (cp : Nat) (rdC : TkRd W C (ldl S m)) => taken_c (cap := cp) rdC OK (by omega) x x0 x1 n HN.out)
  have HR := Lib.hid hr
  clear rd hr hn OK
  rw [LL] at TC
  have HZ := Lib.hid (show (n ≤ x → r = n) ∧ (¬ n ≤ x → r = x) from ⟨fun h => by rw [HR.out]; have := HN.out; omega, fun h => by rw [HR.out]; have := HN.out; omega⟩)
  clear LL M16
  by_cases hnx : n ≤ x
  · obtain rfl : r = n := HZ.out.1 hnx
    go_enter Try.func13, Try.ntmps13
    go_wp2_with fail
    refine MS.out.mono ?_
    rintro e w1 ⟨rfl, hb1⟩
    go_wp2_with fail
    refine (TK.out w1 hb1).mono ?_
    rintro e w2 ⟨C, cp, rfl, s2⟩
    have TC2 := Lib.hid (TC.out _ _ cp (s2.tkrd 0 rfl))
    have B2 := Lib.hid (below_then hb1 s2.below)
    clear s2
    go_wp2_with fail
    refine TC2.out.mono ?_
    rintro e w3 ⟨rfl, hb3⟩
    go_wp2_with fail
    go_ret
    exact ⟨rfl, below_then B2.out hb3⟩
  · obtain rfl : r = x := HZ.out.2 hnx
    go_enter Try.func13, Try.ntmps13
    go_wp2_with fail
    refine MS.out.mono ?_
    rintro e w1 ⟨rfl, hb1⟩
    go_wp2_with fail
    refine (TK.out w1 hb1).mono ?_
    rintro e w2 ⟨C, cp, rfl, s2⟩
    have TC2 := Lib.hid (TC.out _ _ cp (s2.tkrd 0 rfl))
    have B2 := Lib.hid (below_then hb1 s2.below)
    clear s2
    go_wp2_with fail
    refine TC2.out.mono ?_
    rintro e w3 ⟨rfl, hb3⟩
    go_wp2_with fail
    go_ret
    exact ⟨rfl, below_then B2.out hb3⟩
end Go.Proofs.Ytdemhhmceiaohaa
