/- Layer 9: two descriptors that aren't alike. -/
import Derived.Test.YtninpnlmmaleaaaDescT
import Derived.Laws.BitsAllLaws
namespace Go.Proofs.Ytninpnlmmaleaaa
open Go.RowKit
set_option linter.unusedVariables false
set_option maxRecDepth 100000
set_option maxHeartbeats 400000
theorem eq_no (D O : Dsc) (h : D ≠ O) (w : World) :
    (binOp .eql 26 (.agg #[.int .i64 D.op, .int .i64 D.req, .int .i64 D.slot, .int .u64 D.gen, .int .i64 D.frm, .int .i64 D.len, .bool D.dv, .bool D.dn, .int .i64 D.st]) (.agg #[.int .i64 O.op, .int .i64 O.req, .int .i64 O.slot, .int .u64 O.gen, .int .i64 O.frm, .int .i64 O.len, .bool O.dv, .bool O.dn, .int .i64 O.st])).run Try.prog w = .ok (.bool false) w := by
  go_simp
  intro h1 h2 h3 h4 h5 h6 h7 h8 h9
  exact h (Dsc.ext' h1 h2 h3 h4 h5 h6 h7 h8 h9)
theorem rds_of_rd {w : World} {A : Option Addr} {n : Nat} {f : Nat → Int} (rd : Rd w A n (fun j => .int .u8 (f j))) : Rds w A n 1 (bys ((List.range n).map f)) :=
  ⟨by simp [bys], by
    by_cases h0 : n = 0
    · exact Or.inl h0
    · obtain ⟨b, off, rfl, hbl, hc⟩ := rd (by omega)
      refine Or.inr ⟨b, off, rfl, fun j u hu => ?_⟩
      have hj : j < n := by
        rcases Nat.lt_or_ge j n with h | h
        · exact h
        · rw [List.getElem?_eq_none (by simp [bys]; omega)] at hu; cases hu
      have e : u = .int .u8 (f j) := by simpa [bys, hj] using hu.symm
      rw [e]
      exact hc j hj⟩
theorem xor_fact {y b z : Int} (hy : 0 ≤ y ∧ y < 256) (hb : 0 ≤ b ∧ b < 256) (hz : bits BinOp.xor IntKind.u8 y b = z) : (0 ≤ z ∧ z < 256) ∧ (z = y ↔ b = 0) := by
  obtain ⟨m, rfl⟩ := Int.eq_ofNat_of_zero_le hy.1
  obtain ⟨n, rfl⟩ := Int.eq_ofNat_of_zero_le hb.1
  rw [u8_xor_nat m n (by omega) (by omega)] at hz
  have h1 : m ^^^ n < 2 ^ 8 := Nat.xor_lt_two_pow (by omega) (by omega)
  refine ⟨by omega, fun h => ?_, fun h => ?_⟩
  · have e : m ^^^ n = m := by omega
    have : n = 0 := by
      have := congrArg (m ^^^ ·) e
      simp only [← Nat.xor_assoc, Nat.xor_self, Nat.zero_xor] at this
      exact this
    omega
  · have : n = 0 := by omega
    subst this
    rw [← hz, Nat.xor_zero]
theorem bys_set (xs : List Int) (i : Nat) (z : Int) : (bys xs).set i (.int .u8 z) = bys (xs.set i z) := by simp [bys]
theorem bys_get {xs : List Int} {i : Nat} {y : Int} (h : xs[i]? = some y) : (bys xs)[i]? = some (.int .u8 y) := by simp [bys, h]
theorem set_ne {xs : List Int} {i j : Nat} (z : Int) (h : j ≠ i) : (xs.set i z).getD j 0 = xs.getD j 0 := by simp [List.getD, List.getElem?_set_ne (Ne.symm h)]
theorem set_eq {xs : List Int} {i : Nat} (z : Int) (h : i < xs.length) : (xs.set i z).getD i 0 = z := by simp [List.getD, h]
theorem map_get {f : Nat → Int} {n j : Nat} (h : j < n) : ((List.range n).map f).getD j 0 = f j := by simp [List.getD, h]
theorem map_get' {f : Nat → Int} {n j : Nat} (h : j < n) : ((List.range n).map f)[j]? = some (f j) := by simp [h]
theorem beq_iff {a b : Bool} (h : a = true ↔ b = true) : (a == b) = true := by cases a <;> cases b <;> simp_all
end Go.Proofs.Ytninpnlmmaleaaa
