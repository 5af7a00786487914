/- Layer 1's functions, each with one contract whose answer is a plain function of the numbers. -/
import Derived.Test.YtabocojmobbpaaaTickC
namespace Go.Proofs.Ytabocojmobbpaaa
open Go.RowKit
def addV (t s : Int) : Int := if s ≤ 4611686018427387904 ∧ t + s < 4611686018427387904 then t + s else 0
def addE (t s : Int) : Int := if s ≤ 4611686018427387904 ∧ t + s < 4611686018427387904 then 0 else 2
def leftV (t u : Int) : Int := if u ≤ t then 0 else u - t
def mayV (t : Int) : Bool := decide (t < 4611686018427387904)
theorem may_v (t : Int) (w : World) : Calls Try.prog 25 #[.int .u64 t] w fun e w' => e = .returned (.bool (mayV t)) ∧ w = w' := may_any t w
def upV (n d : Int) : Int := if d = 0 then 0 else tUp n d
def wok (p t d : Int) : Prop := 1 ≤ d ∧ d ≤ 4611686018427387904 ∧ p ≤ t
instance (p t d : Int) : Decidable (wok p t d) := by unfold wok; infer_instance
def hok (p t : Int) : Prop := t < 4611686018427387904 ∧ p < 4611686018427387904
instance (p t : Int) : Decidable (hok p t) := by unfold hok; infer_instance
def winK (t p d : Int) : Int := if hok p t then if wok p t d then (t - p) / d else 0 else 0
def winA (t p d : Int) : Int := if hok p t then if wok p t d then p + (t - p) / d * d else 0 else 0
def winE (t p d : Int) : Int := if hok p t then if wok p t d then 0 else 1 else 2
theorem window_v (t p d : Int) (w : World) (h0 : 0 ≤ p) : Calls Try.prog 45 #[.int .u64 t, .int .u64 p, .int .u64 d] w fun e w' => e = .returned (.tuple #[.int .u64 (winK t p d), .int .u64 (winA t p d), .int .i64 (winE t p d)]) ∧ w = w' := by
  unfold winK winA winE
  by_cases h : hok p t
  · by_cases k : wok p t d
    · simp only [if_pos h, if_pos k]; exact window_ok t p d w h0 k.2.2 h.1 ⟨k.1, k.2.1⟩
    · simp only [if_pos h, if_neg k]; exact window_arg t p d w h.1 h.2 k
  · simp only [if_neg h]; exact window_hor t p d w h
def pok (d : Int) : Prop := 1 ≤ d ∧ d ≤ 4611686018427387904
instance (d : Int) : Decidable (pok d) := by unfold pok; infer_instance
def nxtV (t p d : Int) : Int := if hok p t then if pok d then if t < p then p else if p + (t - p) / d * d + d < 4611686018427387904 then p + (t - p) / d * d + d else 0 else 0 else 0
def nxtE (t p d : Int) : Int := if hok p t then if pok d then if t < p then 0 else if p + (t - p) / d * d + d < 4611686018427387904 then 0 else 2 else 1 else 2
end Go.Proofs.Ytabocojmobbpaaa
