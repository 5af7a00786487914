/- Layer 16: one load more. -/
import Derived.Test.YthbghenikooagaaRtaK
namespace Go.Proofs.Ythbghenikooagaa
open Go.RowKit
set_option linter.unusedVariables false
set_option maxRecDepth 100000
set_option maxHeartbeats 1000000
theorem Try.infoLd : (Try.prog.info? 28).map (fun i => (i.zero, i.size, i.bytes)) = some (some (.agg #[.int .i64 0, .int .u64 0]), 2, 16) := by kernel_rfl
def ldw (x : Ld) : List Value := [.int .i64 x.b, .int .u64 x.per]
def ldc (S : Nat → Ld) : Nat → List Value
  | 0 => []
  | k + 1 => ldc S k ++ ldw (S k)
theorem ldc_len (S : Nat → Ld) : ∀ k, (ldc S k).length = k * 2
  | 0 => rfl
  | k + 1 => by simp only [ldc, List.length_append, ldc_len S k]; show k * 2 + 2 = _; omega
theorem ldc_at (S : Nat → Ld) : ∀ k i j, i < k → j < 2 → (ldc S k)[i * 2 + j]? = some ((S i).v j)
  | 0, i, j, hi, _ => absurd hi (by omega)
  | k + 1, i, j, hi, hj => by
    have hl := ldc_len S k
    by_cases e : i = k
    · subst e
      rw [ldc, List.getElem?_append_right (by omega), hl, Nat.add_sub_cancel_left]
      match j, hj with
      | 0, _ | 1, _ => rfl
    · rw [ldc, List.getElem?_append_left (by omega)]
      exact ldc_at S k i j (by omega) hj
theorem ldc_like {S S' : Nat → Ld} : ∀ k, (∀ j, j < k → S j = S' j) → ldc S k = ldc S' k
  | 0, _ => rfl
  | k + 1, h => by simp only [ldc]; rw [ldc_like k fun j hj => h j (by omega), h k (by omega)]
theorem ldw_one (x : Ld) : ∀ u ∈ ldw x, u.oneCell' = true := by
  intro u h
  simp only [ldw, List.mem_cons, List.not_mem_nil, or_false] at h
  rcases h with rfl | rfl <;> rfl
theorem ldc_one (S : Nat → Ld) (k : Nat) : ∀ u ∈ ldc S k, u.oneCell' = true := by
  induction k with
  | zero => intro u hu; cases hu
  | succ k ih =>
    intro u hu
    rcases List.mem_append.1 hu with h | h
    · exact ih u h
    · exact ldw_one _ u h
abbrev LdR (B : Option Addr) (cp n : Nat) (S : Nat → Ld) : Res := LisR 28 2 (.slice B n cp) n (ldc S n)
theorem lis_ls {w : World} {B : Option Addr} {cp n : Nat} {S : Nat → Ld} (h : Lis w 28 2 (.slice B n cp) n (ldc S n)) : Ls w B n S := by
  intro hn
  rcases h.reads.2 with h0 | ⟨g, o, rfl, hc⟩
  · omega
  · exact ⟨g, o, rfl, h.lt (g := g) rfl, fun j hj i hi => hc _ _ (ldc_at S n j i hj hi)⟩
theorem ls_rds {w : World} {A : Option Addr} {n : Nat} {S : Nat → Ld} (h : Ls w A n S) : Rds w A n 2 (ldc S n) := by
  refine ⟨ldc_len S n, ?_⟩
  by_cases h0 : n = 0
  · exact Or.inl h0
  · obtain ⟨b, off, e, hb, hc⟩ := h (by omega)
    refine Or.inr ⟨b, off, e, fun j u hu => ?_⟩
    have hj : j < n * 2 := by
      rcases Nat.lt_or_ge j (ldc S n).length with h | h
      · rw [ldc_len] at h; exact h
      · rw [List.getElem?_eq_none h] at hu; cases hu
    have h1 := ldc_at S n (j / 2) (j % 2) (by omega) (by omega)
    have h2 := hc (j / 2) (by omega) (j % 2) (by omega)
    rw [show j / 2 * 2 + j % 2 = j by omega] at h1 h2
    rw [h1] at hu
    rw [h2]; exact hu
theorem rds_blkL {w : World} {g : Nat} {e : TypeId} {x : Ld} (h : Blk w g e x.cells) : Rds w (some ⟨g, 0, none⟩) 1 2 (ldw x) :=
  ⟨rfl, Or.inr ⟨g, 0, rfl, fun j u hu => by rw [Nat.zero_add, h.cell]; simpa [ldw] using hu⟩⟩
theorem rds_boxL (w : World) (e : TypeId) (p r : Int) : Rds (w.alloc (.cells (Ld.cells ⟨p, r⟩) e)) (some ⟨w.heap.size, 0, none⟩) 1 2 (ldw ⟨p, r⟩) := rds_blkL (x := ⟨p, r⟩) (Blk.new w e _)
def snocL (S : Nat → Ld) (n : Nat) (x : Ld) : Nat → Ld := fun j => if j = n then x else S j
theorem snocL_old (S : Nat → Ld) {n j : Nat} (x : Ld) (h : j < n) : snocL S n x j = S j := by unfold snocL; rw [if_neg (by omega)]
theorem snocL_new (S : Nat → Ld) (n : Nat) (x : Ld) : snocL S n x n = x := by unfold snocL; rw [if_pos rfl]
theorem snocL_ldc (S : Nat → Ld) (n : Nat) (x : Ld) : ldc (snocL S n x) (n + 1) = ldc S n ++ ldw x := by
  rw [ldc, ldc_like (S' := S) n fun j hj => snocL_old S x hj, snocL_new]
theorem ldl_like {S S' : Nat → Ld} : ∀ k, (∀ j, j < k → S j = S' j) → ldl S k = ldl S' k
  | 0, _ => rfl
  | k + 1, h => by simp only [ldl]; rw [ldl_like k fun j hj => h j (by omega), h k (by omega)]
theorem ldl_snoc (S : Nat → Ld) (n : Nat) (x : Ld) : ldl (snocL S n x) (n + 1) = ldl S n ++ [ldt x] := by
  rw [ldl, ldl_like (S' := S) n fun j hj => snocL_old S x hj, snocL_new]
theorem snocL_ok {S : Nat → Ld} {n : Nat} {x : Ld} (h : SOK n S) (hn : n + 1 ≤ 16) (hx : x.ok) : SOK (n + 1) (snocL S n x) :=
  ⟨hn, fun j hj => by
    by_cases e : j = n
    · rw [e, snocL_new]; exact hx
    · rw [snocL_old S x (by omega)]; exact h.2 j (by omega)⟩
section
variable {n m : Nat} {T : Nat → Wk} {S : Nat → Ld} {x : Wk} {y : Ld} {i : Nat}
theorem less_task (hT : TOK n T) (hn : n + 1 ≤ 32) (hx : x.ok) (hS : SOK m S) (hi : i < n) {r : Nat} (h : timeO (n + 1) (snoc T n x) m S i = some r) : ∃ t, timeO n T m S i = some t ∧ t ≤ r := by
  rw [timeO_eq (by omega) (snoc_tok hT hn hx) hS, snoc_old T x hi] at h
  rw [timeO_eq hi hT hS]
  exact lfp_less h (Nat.le_refl _) fun s => by
    unfold Fx whoL
    rw [aht_snoc x hi, ← List.append_assoc, tkn_app (ldl S m ++ aht T i n)]
    omega
theorem less_load (hT : TOK n T) (hS : SOK m S) (hm : m + 1 ≤ 16) (hy : y.ok) (hi : i < n) {r : Nat} (h : timeO n T (m + 1) (snocL S m y) i = some r) : ∃ t, timeO n T m S i = some t ∧ t ≤ r := by
  rw [timeO_eq hi hT (snocL_ok hS hm hy)] at h
  rw [timeO_eq hi hT hS]
  exact lfp_less h (Nat.le_refl _) fun s => by
    unfold Fx whoL
    rw [ldl_snoc, tkn_app, tkn_app, tkn_app]
    omega
theorem time_bd (hT : TOK n T) (hS : SOK m S) (hi : i < n) {r : Nat} (h : timeO n T m S i = some r) : (T i).cost.toNat ≤ r ∧ r ≤ (T i).dead.toNat ∧ Fx (T i).cost.toNat (whoL T S n m i) r = r := by
  rw [timeO_eq hi hT hS] at h
  obtain ⟨h1, h2, -⟩ := lfp_some.1 h
  exact ⟨by unfold Fx at h2; omega, h1, h2⟩
end
end Go.Proofs.Ythbghenikooagaa
