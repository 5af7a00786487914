/- Layer 16: one task more: whether it is let in. -/
import Derived.Test.YthbghenikooagaaRtaE
import Derived.Deep.DeepCutAuto
namespace Go.Proofs.Ythbghenikooagaa
open Go.RowKit
set_option linter.unusedVariables false
set_option maxRecDepth 100000
set_option maxHeartbeats 2000000
theorem Try.infoWk : (Try.prog.info? 26).map (fun i => (i.zero, i.size, i.bytes)) = some (some (.agg #[.int .i64 0, .int .u64 0, .int .u64 0, .int .u64 0]), 4, 32) := by kernel_rfl
def wkl (x : Wk) : List Value := [.int .i64 x.prio, .int .u64 x.cost, .int .u64 x.per, .int .u64 x.dead]
def wkc (T : Nat → Wk) : Nat → List Value
  | 0 => []
  | k + 1 => wkc T k ++ wkl (T k)
theorem wkc_len (T : Nat → Wk) : ∀ k, (wkc T k).length = k * 4
  | 0 => rfl
  | k + 1 => by simp only [wkc, List.length_append, wkc_len T k]; show k * 4 + 4 = _; omega
theorem wkc_at (T : Nat → Wk) : ∀ k i j, i < k → j < 4 → (wkc T k)[i * 4 + j]? = some ((T i).v j)
  | 0, i, j, hi, _ => absurd hi (by omega)
  | k + 1, i, j, hi, hj => by
    have hl := wkc_len T k
    by_cases e : i = k
    · subst e
      rw [wkc, List.getElem?_append_right (by omega), hl, Nat.add_sub_cancel_left]
      match j, hj with
      | 0, _ | 1, _ | 2, _ | 3, _ => rfl
    · rw [wkc, List.getElem?_append_left (by omega)]
      exact wkc_at T k i j (by omega) hj
theorem wkc_like {T T' : Nat → Wk} : ∀ k, (∀ j, j < k → T j = T' j) → wkc T k = wkc T' k
  | 0, _ => rfl
  | k + 1, h => by simp only [wkc]; rw [wkc_like k fun j hj => h j (by omega), h k (by omega)]
theorem wkc_one (T : Nat → Wk) (k : Nat) : ∀ u ∈ wkc T k, u.oneCell' = true := by
  induction k with
  | zero => intro u hu; cases hu
  | succ k ih =>
    intro u hu
    rcases List.mem_append.1 hu with h | h
    · exact ih u h
    · simp only [wkl, List.mem_cons, List.not_mem_nil, or_false] at h
      rcases h with rfl | rfl | rfl | rfl <;> rfl
theorem wkl_one (x : Wk) : ∀ u ∈ wkl x, u.oneCell' = true := by
  intro u h
  simp only [wkl, List.mem_cons, List.not_mem_nil, or_false] at h
  rcases h with rfl | rfl | rfl | rfl <;> rfl
abbrev WkR (B : Option Addr) (cp n : Nat) (T : Nat → Wk) : Res := LisR 26 4 (.slice B n cp) n (wkc T n)
theorem lis_ts {w : World} {B : Option Addr} {cp n : Nat} {T : Nat → Wk} (h : Lis w 26 4 (.slice B n cp) n (wkc T n)) : Ts w B n T := by
  intro hn
  rcases h.reads.2 with h0 | ⟨g, o, rfl, hc⟩
  · omega
  · exact ⟨g, o, rfl, h.lt (g := g) rfl, fun j hj i hi => hc _ _ (wkc_at T n j i hj hi)⟩
theorem ts_rds {w : World} {A : Option Addr} {n : Nat} {T : Nat → Wk} (h : Ts w A n T) : Rds w A n 4 (wkc T n) := by
  refine ⟨wkc_len T n, ?_⟩
  by_cases h0 : n = 0
  · exact Or.inl h0
  · obtain ⟨b, off, e, hb, hc⟩ := h (by omega)
    refine Or.inr ⟨b, off, e, fun j u hu => ?_⟩
    have hj : j < n * 4 := by
      rcases Nat.lt_or_ge j (wkc T n).length with h | h
      · rw [wkc_len] at h; exact h
      · rw [List.getElem?_eq_none h] at hu; cases hu
    have h1 := wkc_at T n (j / 4) (j % 4) (by omega) (by omega)
    have h2 := hc (j / 4) (by omega) (j % 4) (by omega)
    rw [show j / 4 * 4 + j % 4 = j by omega] at h1 h2
    rw [h1] at hu
    rw [h2]; exact hu
theorem rds_blk4 {w : World} {g : Nat} {e : TypeId} {x : Wk} (h : Blk w g e x.cells) : Rds w (some ⟨g, 0, none⟩) 1 4 (wkl x) :=
  ⟨rfl, Or.inr ⟨g, 0, rfl, fun j u hu => by rw [Nat.zero_add, h.cell]; simpa [wkl] using hu⟩⟩
theorem rds_box4 (w : World) (e : TypeId) (p c r d : Int) : Rds (w.alloc (.cells (Wk.cells ⟨p, c, r, d⟩) e)) (some ⟨w.heap.size, 0, none⟩) 1 4 (wkl ⟨p, c, r, d⟩) := rds_blk4 (x := ⟨p, c, r, d⟩) (Blk.new w e _)
def snoc (T : Nat → Wk) (n : Nat) (x : Wk) : Nat → Wk := fun j => if j = n then x else T j
theorem snoc_wkc (T : Nat → Wk) (n : Nat) (x : Wk) : wkc (snoc T n x) (n + 1) = wkc T n ++ wkl x := by
  have e : wkc (snoc T n x) n = wkc T n := wkc_like n fun j hj => by unfold snoc; rw [if_neg (by omega)]
  rw [wkc, e]
  have : snoc T n x n = x := by unfold snoc; rw [if_pos rfl]
  rw [this]
theorem nil_yes (cap : Nat) (W : World) : (binOp BinOp.eql 22 (.slice none 0 cap) (.slice none 0 0)).run Try.prog W = .ok (.bool true) W := by rfl
theorem nil_no (a : Addr) (n cap : Nat) (W : World) : (binOp BinOp.eql 22 (.slice (some a) n cap) (.slice none 0 0)).run Try.prog W = .ok (.bool false) W := by rfl
section
variable {w0 w : World} {A B : Option Addr} {n m cap capB : Nat} {T : Nat → Wk} {S : Nat → Ld}
theorem clone_c (rd : Ts w A n T) (hn : n ≤ 1000) (hA : A = none → n = 0) :
    Calls Try.prog 27 #[.slice A n cap] w fun e w' => ∃ C cp, e = .returned (.slice C n cp) ∧ St w None w' [WkR C cp n T] := by
  cases A with
  | none =>
    obtain rfl := hA rfl
    have ny := nil_yes cap
    clear hn
    go_enter Try.func27, Try.ntmps27
    go_wp2_with fail
    go_ret
    exact ⟨none, 0, rfl, (St.begin w).lis_nil 26 4⟩
  | some a =>
    obtain ⟨iK, hiK, hzK, hsK, hbK⟩ := rinfo_parts Try.infoWk
    have s3 : St w None _ [_] := (St.begin w).lis_new 26 4 0 #[] rfl (by unfold maxLen; omega)
    have hl3 := s3.lis 0 rfl
    have hr3 := ts_rds (rd.below ((Below.refl _ _).alloc (Nat.le_refl _) (.cells #[] 26)))
    have nn := nil_no a n cap
    clear hA rd
    go_enter Try.func27, Try.ntmps27
    go_wp2_with (at_builtin; refine wpList_lis rfl (.tmp 5) (.tmp 6) 22 rfl 26 iK (.agg #[.int .i64 0, .int .u64 0, .int .u64 0, .int .u64 0]) 4 32 Try.underlying22 hiK hzK hsK hbK rfl (by decide) _ _ _ rfl hl3 (some a) n cap (wkc T n) rfl hr3 (wkc_one T n) (by unfold maxLen; omega) (by omega) ?_; intro B9 cp9 w9 hl9 hg9 hat9; have s9' := s3.lis_put 0 rfl hl9 hg9 hat9; clear hl9 hg9 hat9)
    go_ret
    refine ⟨B9, cp9, by simp, ?_⟩
    simpa using s9'
theorem admit_c (rd : Ts w A n T) (rdS : Ls w B m S) (ht : LTyped m S) (hn : n ≤ 1000) (hA : A = none → n = 0) (hm : m ≤ maxLen) (x : Wk) (b : Bool) (hb : b = decide (allO (n + 1) (snoc T n x) m S)) :
    Calls Try.prog 17 #[.slice A n cap, .slice B m capB, .agg x.cells] w fun e w' => e = .returned (.bool b) ∧ Below w.heap.size w w' := by
  obtain ⟨iK, hiK, hzK, hsK, hbK⟩ := rinfo_parts Try.infoWk
  have HSN := Lib.hid (snoc_wkc T n x)
  have AL := Lib.hid (fun W (hW : Below w.heap.size w W) C cp (h : Ts W C (n + 1) (snoc T n x)) => all_c (cap := cp) (capB := capB) h (rdS.below hW) ht (by unfold maxLen; omega) hm b hb)
  obtain ⟨p, c, r, d⟩ := x
  have s0 : St w None (w.alloc (.cells (Wk.cells ⟨p, c, r, d⟩) 26)) [BlkR w.heap.size 26 (Wk.cells ⟨p, c, r, d⟩)] := (St.begin w).box 26 (Wk.cells ⟨p, c, r, d⟩)
  have CL := Lib.hid (fun W (hW : Below w.heap.size w W) => clone_c (cap := cap) (rd.below hW) hn hA)
  obtain ⟨k0, k1, k2, k3⟩ := (s0.blk 0 rfl).four
  have q0 : St w None _ [BlkR w.heap.size 26 (Wk.cells ⟨p, c, r, d⟩)] := s0.drew
  have z0 := q0.box 26 (Wk.cells ⟨p, c, r, d⟩)
  have hsz : ((w.alloc (.cells (Wk.cells ⟨p, c, r, d⟩) 26)).drew).heap.size = w.heap.size + 1 := by simp
  have z0 : St w None (((w.alloc (.cells (Wk.cells ⟨p, c, r, d⟩) 26)).drew).alloc (.cells (Wk.cells ⟨p, c, r, d⟩) 26)) [BlkR w.heap.size 26 (Wk.cells ⟨p, c, r, d⟩), BlkR (w.heap.size + 1) 26 (Wk.cells ⟨p, c, r, d⟩)] := by
    rw [hsz] at z0; exact z0
  clear hsz
  have Q0 := Lib.hid q0
  have Z0 := Lib.hid z0
  clear rd rdS ht hA hm hb s0 q0 z0
  go_enter Try.func17, Try.ntmps17
  go_wp2_with fail
  go_region_law (first
    | (refine step_lis (by rfl) _ _ _ (by rfl) 26 iK (.agg #[.int .i64 0, .int .u64 0, .int .u64 0, .int .u64 0]) 4 32 Try.underlying22 hiK hzK hsK hbK (by rfl) (by omega) (.slice C n cp) n (wkc T n) (by rfl) ((T5.out.alloc _).lis 1 rfl) (some ⟨w5.heap.size, 0, none⟩) 1 1 (wkl ⟨p, c, r, d⟩) (by rfl) (rds_box4 w5 _ _ _ _ _) (wkl_one _) (by unfold maxLen; omega) (by omega) ?_; intro B6 c6 w6 hl hg hat; have t6 := (T5.out.alloc (.cells (Wk.cells ⟨p, c, r, d⟩) 26)).lis_put 1 rfl hl hg hat; have R6 := Lib.hid (lis_ts (T := snoc T n ⟨p, c, r, d⟩) (by rw [HSN.out]; exact hl)); have B6' := Lib.hid t6.below; clear hl hg hat t6)
    | (refine step_lis (by rfl) _ _ _ (by rfl) 26 iK (.agg #[.int .i64 0, .int .u64 0, .int .u64 0, .int .u64 0]) 4 32 Try.underlying22 hiK hzK hsK hbK (by rfl) (by omega) (.slice C n cp) n (wkc T n) (by rfl) (U5.out.lis 2 rfl) (some ⟨w.heap.size + 1, 0, none⟩) 1 1 (wkl ⟨p, c, r, d⟩) (by rfl) (rds_blk4 (U5.out.blk 1 rfl)) (wkl_one _) (by unfold maxLen; omega) (by omega) ?_; intro B6 c6 w6 hl hg hat; have t6 := U5.out.lis_put 2 rfl hl hg hat; have R6 := Lib.hid (lis_ts (T := snoc T n ⟨p, c, r, d⟩) (by rw [HSN.out]; exact hl)); have B6' := Lib.hid t6.below; clear hl hg hat t6)
    | (go_simp; refine (CL.out _ Q0.out.below).mono ?_; rintro e w5 ⟨C, cp, rfl, s5⟩; obtain ⟨S5, y1, y2, y3⟩ := s5.made; have t5 := Q0.out.more y3 y1 y2; obtain ⟨q50, q51, q52, q53⟩ := (show w5.cell? ⟨w.heap.size, 0, none⟩ = some (.int .i64 p) ∧ w5.cell? ⟨w.heap.size, 1, none⟩ = some (.int .u64 c) ∧ w5.cell? ⟨w.heap.size, 2, none⟩ = some (.int .u64 r) ∧ w5.cell? ⟨w.heap.size, 3, none⟩ = some (.int .u64 d) from (t5.blk 0 rfl).four); have T5 := Lib.hid t5; clear s5 y1 y2 y3 t5)
    | (go_simp; refine (CL.out _ Z0.out.below).mono ?_; rintro e w5 ⟨C, cp, rfl, s5⟩; obtain ⟨S5, y1, y2, y3⟩ := s5.made; have t5 := Z0.out.more y3 y1 y2; have U5 := Lib.hid t5; clear s5 y1 y2 y3 t5)
    | (go_simp; refine (AL.out _ B6'.out _ _ R6.out).mono ?_; rintro e w7 ⟨rfl, hb7⟩; have B7 := Lib.hid (below_then B6'.out hb7); clear hb7))
  all_goals
    go_wp2_with fail
    go_ret
    exact ⟨rfl, B7.out⟩
end
end Go.Proofs.Ythbghenikooagaa
