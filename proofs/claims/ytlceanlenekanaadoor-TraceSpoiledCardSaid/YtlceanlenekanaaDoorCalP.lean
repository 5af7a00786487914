/- Layer 21: a number's digits. -/
import Derived.Test.YtlceanlenekanaaDoorCalO
import Derived.Laws.IdiomStrings
namespace Go.Proofs.YtlceanlenekanaaDoor
open Go.RowKit
set_option linter.unusedVariables false
set_option maxRecDepth 100000
set_option maxHeartbeats 4000000
/-- What stands ahead of the last digit. -/
def hi (k : Nat) : List UInt8 := if k < 10 then [] else digs (k / 10)
theorem hi_dig (k : Nat) : digs k = hi k ++ [dg k] := by
  unfold hi
  by_cases h : k < 10
  · rw [if_pos h, digs_small h]; rfl
  · rw [if_neg h, digs_big h]
theorem digs_fit {n k : Nat} {t : List UInt8} (h : digs n = hi k ++ t) (hk : ¬ k < 10) : digs n = hi (k / 10) ++ dg (k / 10) :: t := by
  have e : hi k = digs (k / 10) := if_neg hk
  rw [h, e, hi_dig (k / 10)]; simp
theorem dg_cell (w : World) (x : Int) (b : UInt8) (hx : x = (b.toNat : Int)) : (convert 38 9 (.slice (some ⟨w.heap.size, 0, none⟩) 1 1)).run Tryd.prog (w.alloc (.cells #[.int .u8 x] 5)) = .ok (.string ⟨#[b]⟩) (w.alloc (.cells #[.int .u8 x] 5)) := by
  subst hx
  exact run_convert_bytes_back (P := Tryd.prog) _ 38 9 5 ⟨w.heap.size, 0, none⟩ 1 [b] Tryd.underlying38 Tryd.underlying5 Tryd.underlying9 fun j hj => by
    match j, hj with
    | 0, _ => exact (rds_box w 5 (.int .u8 (b.toNat : Int))).2.elim (fun h => by cases h) fun ⟨g, o, e, h⟩ => by injection e with e; injection e with e1 e2; subst e1; subst e2; exact h 0 _ rfl
theorem digs_add (b : UInt8) (t : List UInt8) : Value.string ((⟨#[b]⟩ : ByteArray) ++ (⟨t.toArray⟩ : ByteArray)) = stV (b :: t) := by
  unfold stV
  congr 1
theorem rdigits_o (n : Nat) (w : World) (hn : n ≤ 9000000000000000000) : Calls Tryd.prog 18 #[.int .i64 (n : Int)] w fun e w' => e = .returned (stV (digs n)) ∧ Below w.heap.size w w' := by
  have z0 : decide ((n : Int) < 0) = false := decide_eq_false (by omega)
  have hcv := dg_cell w (48 + (n : Int) % 10) (dg n) (by rw [dg_nat]; omega)
  have HI := Lib.hid (hi_dig n)
  go_enter Tryd.func18, Tryd.ntmps18
  go_wp2
  clear hcv
  go_loopw [0, 3] (fun x0 x3 wr => ∃ (k : Nat) (t : List UInt8), k ≤ n ∧ x0 = .int .i64 (k : Int) ∧ x3 = stV t ∧ digs n = hi k ++ t ∧ St w None wr []) (fun x0 _ _ => (intOf x0).toNat)
  case atStart => exact ⟨n, [dg n], Nat.le_refl _, rfl, rfl, HI.out, (St.begin w).alloc _⟩
  case round =>
  obtain ⟨k, t, hk, rfl, rfl, hdg, hst⟩ := hrel
  have HD := Lib.hid hdg
  have tl : t.length ≤ 20 := by
    have h1 := congrArg List.length hdg
    rw [List.length_append] at h1
    have h2 := digs_max 19 n (by omega)
    omega
  clear hdg z0
  by_cases hlt : (10 : Int) ≤ (k : Int)
  · have z1 : decide ((10 : Int) ≤ (k : Int)) = true := decide_eq_true hlt
    have hcv := dg_cell wr (48 + ((k : Int) / 10) % 10) (dg (k / 10)) (by rw [dg_nat]; omega)
    have HA := Lib.hid (digs_add (dg (k / 10)) t)
    have H2 := Lib.hid (digs_fit HD.out (show ¬ k < 10 by omega))
    unfold stV
    go_wp2
    go_roundw
    case rel => exact ⟨k / 10, dg (k / 10) :: t, by omega, by go_num, HA.out, H2.out, hst.alloc _⟩
    case measure => simp [intOf]; omega
  · have z1 : decide ((10 : Int) ≤ (k : Int)) = false := decide_eq_false hlt
    have hf : digs n = t := by have := HD.out; rw [show hi k = [] from if_pos (by omega)] at this; exact this
    have HF := Lib.hid hf
    clear hf
    go_wp2
    go_ret
    exact ⟨by rw [HF.out]; rfl, hst.below⟩
theorem rdigits_neg (n : Nat) (w : World) (h1 : 1 ≤ n) (hn : n ≤ 9000000000000000000) : Calls Tryd.prog 18 #[.int .i64 (-(n : Int))] w fun e w' => e = .returned (stV (45 :: digs n)) ∧ Below w.heap.size w w' := by
  have z0 : decide (-(n : Int) < 0) = true := decide_eq_true (by omega)
  have z00 : decide (0 < (n : Int)) = true := decide_eq_true (by omega)
  have KD := Lib.hid (rdigits_o n w hn)
  have dl : (digs n).length ≤ 20 := digs_max 19 n (by omega)
  have HA := Lib.hid (digs_add 45 (digs n))
  go_enter Tryd.func18, Tryd.ntmps18
  go_wp2_with (go_at_call 18; refine KD.out.mono ?_; unfold stV; rintro e w2 ⟨rfl, hb⟩)
  go_ret
  exact ⟨by rw [← HA.out]; rfl, hb⟩
end Go.Proofs.YtlceanlenekanaaDoor
