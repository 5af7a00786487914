/- Layer 7: written, and read. -/
import Derived.Test.YtiaojhjghededaaPoolU
import Derived.Test.YtiaojhjghededaaCopy
namespace Go.Proofs.Ytiaojhjghededaa
open Go.RowKit
set_option linter.unusedVariables false
set_option maxRecDepth 100000
set_option maxHeartbeats 800000
theorem rds_below {w w' : World} {A : Option Addr} {m size : Nat} {xs : List Value} (h : Rds w A m size xs) (hb : Below w.heap.size w w') : Rds w' A m size xs := by
  refine ⟨h.1, ?_⟩
  rcases h.2 with h0 | ⟨g, off, rfl, hc⟩
  · exact Or.inl h0
  · refine Or.inr ⟨g, off, rfl, fun j u hu => ?_⟩
    have h1 := hc j u hu
    have hlt : g < w.heap.size := by
      rcases Nat.lt_or_ge g w.heap.size with h | h
      · exact h
      · simp [World.cell?, Array.getElem?_eq_none h] at h1
    exact (hb.cell (p := ⟨g, off + j, none⟩) hlt).trans h1
def fits (l : Nat) (at' n : Int) : Prop := 0 ≤ at' ∧ at' ≤ l ∧ 0 ≤ n ∧ n ≤ l - at'
instance (l : Nat) (a n : Int) : Decidable (fits l a n) := by unfold fits; infer_instance
section
variable {w0 w : World} {S S0 : Nat → Prop} {N : List Res} {p bb off cap n : Nat} {bp : Nat → Nat} {st : Nat → Buf} {G : Int}
theorem fits_yes {q : Addr} {l : Nat} {v : Option Addr} (hl : l ≤ 65536) (at' m : Int) (e0 : w.cell? ⟨q.block, q.off, none⟩ = some (.slice v l l)) (h : fits l at' m) :
    Calls Try.prog 35 #[.pointer (some ⟨q.block, q.off, none⟩), .int .i64 at', .int .i64 m] w fun e w' => e = .returned (.bool true) ∧ w = w' := by
  obtain ⟨h1, h2, h3, h4⟩ := h
  have d1 : decide (0 ≤ at') = true := decide_eq_true h1
  have d2 : decide (at' ≤ (l : Int)) = true := decide_eq_true h2
  have d3 : decide (0 ≤ m) = true := decide_eq_true h3
  have d4 : decide (m ≤ (l : Int) - at') = true := decide_eq_true h4
  go_enter Try.func35, Try.ntmps35
  go_wp2
  go_ret
  exact ⟨rfl, rfl⟩
theorem fits_no {q : Addr} {l : Nat} {v : Option Addr} (hl : l ≤ 65536) (at' m : Int) (e0 : w.cell? ⟨q.block, q.off, none⟩ = some (.slice v l l)) (h : ¬ fits l at' m) :
    Calls Try.prog 35 #[.pointer (some ⟨q.block, q.off, none⟩), .int .i64 at', .int .i64 m] w fun e w' => e = .returned (.bool false) ∧ w = w' := by
  by_cases h1 : 0 ≤ at'
  · have d1 : decide (0 ≤ at') = true := decide_eq_true h1
    by_cases h2 : at' ≤ (l : Int)
    · have d2 : decide (at' ≤ (l : Int)) = true := decide_eq_true h2
      by_cases h3 : 0 ≤ m
      · have d3 : decide (0 ≤ m) = true := decide_eq_true h3
        have h4 : ¬ m ≤ (l : Int) - at' := fun h4 => h ⟨h1, h2, h3, h4⟩
        have d4 : decide (m ≤ (l : Int) - at') = false := decide_eq_false h4
        clear h
        go_enter Try.func35, Try.ntmps35
        go_wp2
        go_ret
        exact ⟨rfl, rfl⟩
      · have d3 : decide (0 ≤ m) = false := decide_eq_false h3
        clear h
        go_enter Try.func35, Try.ntmps35
        go_wp2
        go_ret
        exact ⟨rfl, rfl⟩
    · have d2 : decide (at' ≤ (l : Int)) = false := decide_eq_false h2
      clear h
      go_enter Try.func35, Try.ntmps35
      go_wp2
      go_ret
      exact ⟨rfl, rfl⟩
  · have d1 : decide (0 ≤ at') = false := decide_eq_false h1
    clear h
    go_enter Try.func35, Try.ntmps35
    go_wp2
    go_ret
    exact ⟨rfl, rfl⟩
/-- A buffer's bytes are laid anew, behind a copy. -/
theorem pool_copied {w' : World} (s : St w0 S0 w (PoolL p bb off cap bp n st ++ N)) {i : Nat} (hi : i < n) (xs : List Int) (hl : xs.length = (st i).bs.length) (hlis : Lis w' 5 1 (.slice (some ⟨bp i, 0, none⟩) (st i).bs.length (st i).bs.length) (st i).bs.length (bys xs)) (ho : Only (bp i) w w') :
    St w0 S0 w' (PoolL p bb off cap bp n (updB st i { st i with bs := xs }) ++ N) :=
  pool_bytes s hi xs hl fun T ⟨_, hT⟩ => ⟨⟨by rw [hl]; exact hlis, fun b => by rw [hT b]; simp [Value.ownBlock]⟩, Did.of_only ho ((hT (bp i)).2 (by simp [Value.ownBlock])) fun b hb => Or.inl hb⟩
def WriteB (by' : Int) (at' : Int) (xs : List Int) (b : Buf) (c : Int) (b' : Buf) : Prop :=
  (¬ who by' ∧ c = 1 ∧ b' = b) ∨ (who by' ∧ b.owner ≠ by' ∧ c = 8 ∧ b' = b) ∨ (who by' ∧ b.owner = by' ∧ ¬ fits b.bs.length at' xs.length ∧ c = 1 ∧ b' = b) ∨
    (who by' ∧ b.owner = by' ∧ fits b.bs.length at' xs.length ∧ c = 0 ∧ b' = { b with bs := b.bs.take at'.toNat ++ (xs ++ b.bs.drop (at'.toNat + xs.length)) })
theorem write_b (by' at' : Int) (xs : List Int) (b : Buf) : ∃ c b', WriteB by' at' xs b c b' := by
  by_cases h : who by'
  · by_cases h2 : b.owner = by'
    · by_cases h3 : fits b.bs.length at' xs.length
      · exact ⟨_, _, Or.inr (Or.inr (Or.inr ⟨h, h2, h3, rfl, rfl⟩))⟩
      · exact ⟨_, _, Or.inr (Or.inr (Or.inl ⟨h, h2, h3, rfl, rfl⟩))⟩
    · exact ⟨_, _, Or.inr (Or.inl ⟨h, h2, rfl, rfl⟩)⟩
  · exact ⟨_, _, Or.inl ⟨h, rfl, rfl⟩⟩
theorem enter_write (xs : Array Value) (W : World) : (callFunc 38 xs).run Try.prog W = .ok (.enter 38 xs) W := by go_simp
theorem enter_read (xs : Array Value) (W : World) : (callFunc 34 xs).run Try.prog W = .ok (.enter 34 xs) W := by go_simp
theorem write1_c {W : World} (s : St w0 S0 W (PoolL p bb off cap bp n st ++ N)) {i : Nat} (hi : i < n) (hl : (st i).bs.length ≤ 65536) {by' at' c : Int} {xs : List Int} {b' : Buf} (h : WriteB by' at' xs (st i) c b') {f t q : Nat} {A : Option Addr} {cp : Nat} (hx : xs.length ≤ maxLen)
    (c1 : W.cell? ⟨f, 0, none⟩ = some (.int .i64 by')) (c2 : W.cell? ⟨t, 0, none⟩ = some (.int .i64 at')) (c3 : W.cell? ⟨q, 0, none⟩ = some (.slice A xs.length cp)) (hr : Rds W A xs.length 1 (bys xs)) :
    Calls Try.prog 38 #[.pointer (some ⟨bb, off + i * 4, none⟩), .pointer (some ⟨f, 0, none⟩), .pointer (some ⟨t, 0, none⟩), .pointer (some ⟨q, 0, none⟩)] W fun e w' => e = .returned (.int .i64 c) ∧ St w0 S0 w' (PoolL p bb off cap bp n (updB st i b') ++ N) := by
  unfold maxLen at hx
  obtain ⟨e0, e1, e2, e3⟩ := pool_four s hi
  have SS := Lib.hid s
  clear e1 e3
  rcases h with ⟨h1, rfl, rfl⟩ | ⟨h1, h2, rfl, rfl⟩ | ⟨h1, h2, h3, rfl, rfl⟩ | ⟨h1, h2, h3, rfl, rfl⟩
  · rw [updB_id]
    clear s
    go_enter Try.func38, Try.ntmps38
    go_wp2_with fail
    refine (owns_no _ _ h1).mono ?_
    rintro e w1 ⟨rfl, rfl⟩
    go_wp2_with fail
    go_ret
    exact ⟨rfl, SS.out⟩
  · have z1 : ((st i).owner != by') = true := by simp [bne, h2]
    rw [updB_id]
    clear s
    generalize (st i).owner = ow at *
    clear h2
    go_enter Try.func38, Try.ntmps38
    go_wp2_with fail
    refine (owns_yes _ _ h1).mono ?_
    rintro e w1 ⟨rfl, rfl⟩
    go_wp2_with fail
    go_quiet (fail)
    go_wp2_with fail
    go_ret
    exact ⟨rfl, SS.out.drewN _⟩
  · have z1 : (by' != by') = false := by simp [bne]
    rw [updB_id]
    rw [h2] at e2
    have FN := Lib.hid (fun j => fits_no (w := W.drewN j) (q := ⟨bb, off + i * 4, none⟩) (v := some ⟨bp i, 0, none⟩) hl at' xs.length e0 h3)
    clear s h2 h3
    go_enter Try.func38, Try.ntmps38
    go_wp2_with fail
    refine (owns_yes _ _ h1).mono ?_
    rintro e w1 ⟨rfl, rfl⟩
    go_wp2_with fail
    go_quiet (fail)
    go_wp2_with fail
    refine (FN.out _).mono ?_
    rintro e w1 ⟨rfl, rfl⟩
    go_wp2_with fail
    go_ret
    exact ⟨rfl, SS.out.drewN _⟩
  · have z1 : (by' != by') = false := by simp [bne]
    have FY := Lib.hid (fun j => fits_yes (w := W.drewN j) (q := ⟨bb, off + i * 4, none⟩) (v := some ⟨bp i, 0, none⟩) hl at' xs.length e0 h3)
    obtain ⟨f1, f2, f3, f4⟩ := h3
    obtain ⟨k, rfl⟩ := Int.eq_ofNat_of_zero_le f1
    have hk : k ≤ (st i).bs.length := by omega
    have hkx : k + xs.length ≤ (st i).bs.length := by omega
    have hmin : min xs.length ((st i).bs.length - k) = xs.length := by omega
    have hL := Lib.hid (fun j => (s.drewN j).lis _ (pool_idx (by omega) hi))
    have hR := Lib.hid (fun j => (show Rds (W.drewN j) A xs.length 1 (bys xs) from rds_below hr (below_drewN (Below.refl _ _) j)))
    have KK := Lib.hid (fun j w' (hl2 : Lis w' 5 1 (.slice (some ⟨bp i, 0, none⟩) (st i).bs.length (st i).bs.length) (st i).bs.length ((bys (st i).bs).take k ++ (bys xs).take (min xs.length ((st i).bs.length - k)) ++ (bys (st i).bs).drop (k + min xs.length ((st i).bs.length - k)))) (ho : Only (bp i) (W.drewN j) w') =>
      pool_copied (s.drewN j) hi ((st i).bs.take k ++ (xs ++ (st i).bs.drop (k + xs.length))) (by simp; omega) (by
        rw [hmin, List.take_of_length_le (l := bys xs) (by simp [bys])] at hl2
        simpa [bys] using hl2) ho)
    rw [h2] at e2
    have HH := Lib.hid h2
    clear s h2
    go_enter Try.func38, Try.ntmps38
    go_wp2_with fail
    refine (owns_yes _ _ h1).mono ?_
    rintro e w1 ⟨rfl, rfl⟩
    go_wp2_with fail
    go_quiet (fail)
    go_wp2_with fail
    refine (FY.out _).mono ?_
    rintro e w1 ⟨rfl, rfl⟩
    go_upto_region 7 with (fail)
    generalize hq : World.drewN W _ = Wq
    have L1 := hq ▸ hL.out _
    have R1 := hq ▸ hR.out _
    have K1 := Lib.hid (hq ▸ KK.out _)
    have y0 : Wq.cell? ⟨bb, off + i * 4, none⟩ = some (.slice (some ⟨bp i, 0, none⟩) (st i).bs.length (st i).bs.length) := by rw [← hq]; exact e0
    have y2 : Wq.cell? ⟨t, 0, none⟩ = some (.int .i64 k) := by rw [← hq]; exact c2
    have y3 : Wq.cell? ⟨q, 0, none⟩ = some (.slice A xs.length cp) := by rw [← hq]; exact c3
    have L2 : Lis Wq.drew 5 1 (.slice (some ⟨bp i, 0, none⟩) (st i).bs.length (st i).bs.length) (st i).bs.length (bys (st i).bs) := L1
    have R2 : Rds Wq.drew A xs.length 1 (bys xs) := R1
    clear L1 R1
    go_region_law (refine step_copy (w := Wq.drew) (by rfl) _ _ _ _ (by rfl) 5 Try.underlying23 (by kernel_rfl) L2 k hk (if (st i).bs.length = k then some ⟨bp i, 0, none⟩ else some ⟨bp i, k, none⟩) ((st i).bs.length - k) (fun h => by rw [if_neg (by omega), Nat.zero_add]) A xs.length cp (by rfl) (by rfl) (bys xs) R2 (bys_one _) ?_; intro w5 hl5 ho5)
    all_goals go_wp2_with fail
    all_goals go_ret
    all_goals exact ⟨rfl, K1.out w5 hl5 ⟨ho5.os, ho5.tape, ho5.output, ho5.size, ho5.block⟩⟩
end
end Go.Proofs.Ytiaojhjghededaa
