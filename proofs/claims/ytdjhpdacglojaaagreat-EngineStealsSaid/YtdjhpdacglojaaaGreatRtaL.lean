/- How many bits a number has, by the library: walked apart from the rest, where the table's look-up is known. -/
import Derived.Test.YtdjhpdacglojaaaGreatChecked
import Derived.Lib.BitFns
import Derived.Lib.Strings
import Derived.Lib.Slices
import Derived.Lib.Small
import Derived.Lib.Walk
namespace Go.Proofs.YtdjhpdacglojaaaGreat
set_option linter.unusedVariables false
set_option maxRecDepth 100000
set_option maxHeartbeats 2000000
theorem len_spec : ∀ (f x : Nat), 0 < x → x < 2 ^ f → f ≤ 64 → x < 2 ^ Lib.bitLen x ∧ 2 ^ Lib.bitLen x ≤ 2 * x ∧ 1 ≤ Lib.bitLen x
  | 0, x, h0, h, _ => by simp at h; omega
  | f + 1, x, h0, h, hf => by
    have h64 : x < 2 ^ 64 := Nat.lt_of_lt_of_le h (Nat.pow_le_pow_right (by omega) hf)
    have e := Lib.bitLen_half x (by omega) h64
    by_cases h1 : x = 1
    · subst h1; decide
    · rw [Nat.pow_succ] at h
      obtain ⟨a, b, c⟩ := len_spec f (x / 2) (by omega) (by omega) (by omega)
      rw [e, Nat.add_comm, Nat.pow_succ]
      omega
theorem len_k (x z : Int) (k : Nat) (hx : 0 ≤ x) (h1 : x ≤ 18446744073709551615) (z0 : 0 ≤ z) (z1 : z ≤ 255) (hz : z.toNat = x.toNat / 2 ^ k) (hge : k = 0 ∨ 2 ^ k ≤ x.toNat) :
    Lib.len8 z = (Lib.bitLen x.toNat : Int) - (k : Int) ∧ 0 ≤ Lib.len8 z ∧ Lib.len8 z ≤ 8 := by
  have a := Lib.len8_of z z0 z1
  have b := Lib.bitLen_le8' z z0 z1
  rw [hz] at a b
  rw [a]
  rcases hge with rfl | h
  · simp at a b ⊢; omega
  · have s := Lib.bitLen_shift k x.toNat h (by omega)
    omega
theorem len64_c (x : Int) (w : World) (h0 : 1 ≤ x) (h1 : x ≤ 18446744073709551615) :
    Calls Tryz.prog 182 #[.int .u64 x] w fun e w' => e = .returned (.int .i64 (Lib.bitLen x.toNat)) ∧ w = w' := by
  go_enter Tryz.func182, Tryz.ntmps182
  go_wp2
  all_goals
    go_ret
    refine ⟨congrArg (fun z => Ending.returned (Value.int IntKind.i64 z)) ?_, rfl⟩
    first
      | (have h := len_k x (x / 4294967296 / 65536 / 256 % 256) 56 (by omega) h1 (by omega) (by omega) (by omega) (Or.inr (by omega)); omega)
      | (have h := len_k x (x / 4294967296 / 65536 % 256) 48 (by omega) h1 (by omega) (by omega) (by omega) (Or.inr (by omega)); omega)
      | (have h := len_k x (x / 4294967296 / 256 % 256) 40 (by omega) h1 (by omega) (by omega) (by omega) (Or.inr (by omega)); omega)
      | (have h := len_k x (x / 4294967296 % 256) 32 (by omega) h1 (by omega) (by omega) (by omega) (Or.inr (by omega)); omega)
      | (have h := len_k x (x / 65536 / 256 % 256) 24 (by omega) h1 (by omega) (by omega) (by omega) (Or.inr (by omega)); omega)
      | (have h := len_k x (x / 65536 % 256) 16 (by omega) h1 (by omega) (by omega) (by omega) (Or.inr (by omega)); omega)
      | (have h := len_k x (x / 256 % 256) 8 (by omega) h1 (by omega) (by omega) (by omega) (Or.inr (by omega)); omega)
      | (have h := len_k x (x % 256) 0 (by omega) h1 (by omega) (by omega) (by simp; omega) (Or.inl rfl); omega)
end Go.Proofs.YtdjhpdacglojaaaGreat
