/- Layer 1's functions, each with one contract whose answer is a plain function of the numbers. -/
import Derived.Test.YtlmfcdfodlcjaaaTickC
namespace Go.Proofs.Ytlmfcdfodlcjaaa
open Go.RowKit
def addV (t s : Int) : Int := if s ≤ 4611686018427387904 ∧ t + s < 4611686018427387904 then t + s else 0
def addE (t s : Int) : Int := if s ≤ 4611686018427387904 ∧ t + s < 4611686018427387904 then 0 else 2
theorem add_v (t s : Int) (w : World) (h0 : 0 ≤ t) (h1 : 0 ≤ s) : Calls Try.prog 34 #[.int .u64 t, .int .u64 s] w fun e w' => e = .returned (.tuple #[.int .u64 (addV t s), .int .i64 (addE t s)]) ∧ w = w' := by
  unfold addV addE; by_cases h : s ≤ 4611686018427387904 ∧ t + s < 4611686018427387904
  · rw [if_pos h, if_pos h]; exact add_ok t s w h0 h1 h.1 h.2
  · rw [if_neg h, if_neg h]; exact add_no t s w h0 h1 h
def leftV (t u : Int) : Int := if u ≤ t then 0 else u - t
def mayV (t : Int) : Bool := decide (t < 4611686018427387904)
theorem may_v (t : Int) (w : World) : Calls Try.prog 21 #[.int .u64 t] w fun e w' => e = .returned (.bool (mayV t)) ∧ w = w' := may_any t w
def upV (n d : Int) : Int := if d = 0 then 0 else tUp n d
theorem up_v (n d : Int) (w : World) (h0 : 0 ≤ n) (h1 : n ≤ 18446744073709551615) (h2 : 0 ≤ d) : Calls Try.prog 29 #[.int .u64 n, .int .u64 d] w fun e w' => e = .returned (.int .u64 (upV n d)) ∧ w = w' := by
  unfold upV; by_cases h : d = 0
  · subst h; rw [if_pos rfl]; exact up_0 n w
  · rw [if_neg h]; exact up_any n d w h0 h1 (by omega)
def wok (p t d : Int) : Prop := 1 ≤ d ∧ d ≤ 4611686018427387904 ∧ p ≤ t
instance (p t d : Int) : Decidable (wok p t d) := by unfold wok; infer_instance
def hok (p t : Int) : Prop := t < 4611686018427387904 ∧ p < 4611686018427387904
instance (p t : Int) : Decidable (hok p t) := by unfold hok; infer_instance
def winK (t p d : Int) : Int := if hok p t then if wok p t d then (t - p) / d else 0 else 0
def winA (t p d : Int) : Int := if hok p t then if wok p t d then p + (t - p) / d * d else 0 else 0
def winE (t p d : Int) : Int := if hok p t then if wok p t d then 0 else 1 else 2
theorem window_v (t p d : Int) (w : World) (h0 : 0 ≤ p) : Calls Try.prog 37 #[.int .u64 t, .int .u64 p, .int .u64 d] w fun e w' => e = .returned (.tuple #[.int .u64 (winK t p d), .int .u64 (winA t p d), .int .i64 (winE t p d)]) ∧ w = w' := by
  unfold winK winA winE
  by_cases h : hok p t
  · by_cases k : wok p t d
    · simp only [if_pos h, if_pos k]; exact window_ok t p d w h0 k.2.2 h.1 ⟨k.1, k.2.1⟩
    · simp only [if_pos h, if_neg k]; exact window_arg t p d w h.1 h.2 k
  · simp only [if_neg h]; exact window_hor t p d w h
def pok (d : Int) : Prop := 1 ≤ d ∧ d ≤ 4611686018427387904
instance (d : Int) : Decidable (pok d) := by unfold pok; infer_instance
def nxtV (t p d : Int) : Int := if hok p t then if pok d then if t < p then p else if p + (t - p) / d * d + d < 4611686018427387904 then p + (t - p) / d * d + d else 0 else 0 else 0
def nxtE (t p d : Int) : Int := if hok p t then if pok d then if t < p then 0 else if p + (t - p) / d * d + d < 4611686018427387904 then 0 else 2 else 1 else 2
theorem next_v (t p d : Int) (w : World) (h0 : 0 ≤ p) : Calls Try.prog 26 #[.int .u64 t, .int .u64 p, .int .u64 d] w fun e w' => e = .returned (.tuple #[.int .u64 (nxtV t p d), .int .i64 (nxtE t p d)]) ∧ w = w' := by
  unfold nxtV nxtE
  by_cases h : hok p t
  · by_cases k : pok d
    · by_cases l : t < p
      · simp only [if_pos h, if_pos k, if_pos l]; exact next_pre t p d w h.2 k l
      · by_cases m : p + (t - p) / d * d + d < 4611686018427387904
        · simp only [if_pos h, if_pos k, if_neg l, if_pos m]; exact next_ok t p d w h0 (by omega) h.1 k m
        · simp only [if_pos h, if_pos k, if_neg l, if_neg m]; exact next_end t p d w h0 (by omega) h.1 k (by omega)
    · simp only [if_pos h, if_neg k]; exact next_arg t p d w h.1 h.2 k
  · simp only [if_neg h]; exact next_hor t p d w h
end Go.Proofs.Ytlmfcdfodlcjaaa
