/- Layer 17: whether tasks and loads may be, as the document says; more of the answers. -/
import Derived.Test.YtdnonhhphkmlmaaCpuT
import Derived.Test.YtdnonhhphkmlmaaRtaZ
namespace Go.Proofs.Ytdnonhhphkmlmaa
open Go.RowKit
set_option linter.unusedVariables false
set_option maxRecDepth 100000
set_option maxHeartbeats 2000000
section
variable {w0 w : World} {A B : Option Addr} {n m cap capB : Nat} {T : Nat → Wk} {S : Nat → Ld}
theorem rmay17_c (rd : Ts w A n T) (rdS : Ls w B m S) (ht : LTyped m S) (hn : n ≤ maxLen) (hm : m ≤ maxLen) (b : Bool) (hb : b = decide (TOK n T ∧ LOK m S)) :
    Calls Try.prog 11 #[.slice A n cap, .slice B m capB] w fun e w' => e = .returned (.bool b) ∧ Below w.heap.size w w' := by
  have MT := Lib.hid (rtmay_c (cap := cap) rd hn (decide (TOK n T)) rfl)
  have MS := Lib.hid (fun W (hW : Below w.heap.size w W) => rsmay_c (cap := capB) (rdS.below hW) ht hm (decide (LOK m S)) rfl)
  have HB := Lib.hid hb
  clear rd rdS ht hb
  go_enter Try.func11, Try.ntmps11
  go_wp2_with fail
  refine MT.out.mono ?_
  rintro e w1 ⟨rfl, hb1⟩
  have B1 := Lib.hid hb1
  clear hb1
  by_cases hT : TOK n T
  · have e1 : decide (TOK n T) = true := decide_eq_true hT
    have hbb : b = decide (LOK m S) := by
      rw [HB.out]
      by_cases hS : LOK m S
      · rw [decide_eq_true hS]; exact decide_eq_true ⟨hT, hS⟩
      · rw [decide_eq_false hS]; exact decide_eq_false fun h => hS h.2
    rw [e1]
    rw [← hbb] at MS
    clear hbb e1 hT
    go_wp2_with fail
    refine (MS.out w1 B1.out).mono ?_
    rintro e w2 ⟨rfl, hb2⟩
    have B2 := Lib.hid (below_then B1.out hb2)
    clear hb2
    go_wp2_with fail
    go_ret
    exact ⟨rfl, B2.out⟩
  · have e1 : decide (TOK n T) = false := decide_eq_false hT
    obtain rfl : b = false := by rw [HB.out]; exact decide_eq_false fun h => hT h.1
    rw [e1]
    clear e1 hT
    go_wp2_with fail
    go_ret
    exact ⟨rfl, B1.out⟩
end
/-- Released for the first time. -/
theorem relA_first {n : Nat} {T : Nat → CTk} {t dem : Int} {j : Nat} (hj : j < n) (h0 : (T j).there = false) (h1 : (T j).began = true → (T j).per ≤ t - (T j).rel) (h2 : t + (T j).dead < 4611686018427387904) (hd : dem ≠ 0) : relA n T t (j : Int) dem = 0 := by
  unfold relA
  rw [Int.toNat_natCast, if_neg (by omega), if_neg (by rw [h0]; decide), if_neg (fun h => by have := h1 h.1; omega), if_neg (by omega)]
theorem relA_there {n : Nat} {T : Nat → CTk} {t dem : Int} {j : Nat} (hj : j < n) (h0 : (T j).there = true) (hd : dem ≠ 0) : relA n T t (j : Int) dem = 12 := by
  unfold relA
  rw [Int.toNat_natCast, if_neg (by omega), if_pos h0]
theorem relA_soon {n : Nat} {T : Nat → CTk} {t dem : Int} {j : Nat} (hj : j < n) (h0 : (T j).there = false) (h1 : (T j).began = true) (h2 : t - (T j).rel < (T j).per) (hd : dem ≠ 0) : relA n T t (j : Int) dem = 11 := by
  unfold relA
  rw [Int.toNat_natCast, if_neg (by omega), if_neg (by rw [h0]; decide), if_pos ⟨h1, h2⟩]
theorem jobA_no {n : Nat} {T : Nat → CTk} {j : Nat} (h : (T j).there = false) : jobA n T (j : Int) = (0, 0, false) := by
  unfold jobA; rw [Int.toNat_natCast, if_neg (by rw [h]; simp)]
theorem jobA_yes {n : Nat} {T : Nat → CTk} {j : Nat} (hj : j < n) (h : (T j).there = true) : jobA n T (j : Int) = ((T j).ran, (T j).unt, true) := by
  unfold jobA; rw [Int.toNat_natCast, if_pos ⟨by omega, by omega, h⟩]
/-- A processor in memory beside what was there. -/
theorem St.cpu {w0 w w' : World} {S0 : Nat → Prop} {L : List Res} {C : List Res} (H : St w0 S0 w L) (K : St w None w' (C ++ [])) : St w0 S0 w' (C ++ L) := by
  have h := (H.join K).comm
  rwa [List.append_nil] at h
theorem misL_one (T : Nat → CTk) (now : Int) (h : (T 0).there = true → (T 0).unt ≠ now) : misL T now 1 = [] := by
  unfold misL
  refine List.filter_eq_nil_iff.2 fun i hi hb => ?_
  obtain rfl : i = 0 := by simpa using hi
  unfold misB at hb
  rw [Bool.and_eq_true] at hb
  exact h hb.1 (beq_iff_eq.1 hb.2)
end Go.Proofs.Ytdnonhhphkmlmaa
