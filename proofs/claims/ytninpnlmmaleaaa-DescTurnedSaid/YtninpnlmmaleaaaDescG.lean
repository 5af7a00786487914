/- Layer 9: a number's bytes, the document's. -/
import Derived.Test.YtninpnlmmaleaaaDescF
namespace Go.Proofs.Ytninpnlmmaleaaa
open Go.RowKit
set_option linter.unusedVariables false
set_option maxRecDepth 100000
set_option maxHeartbeats 1000000
section
variable {w0 w : World} {S0 : Nat → Prop} {L : List Res}
/-- A row made whole, as a list. -/
theorem St.arr_lis {g n : Nat} {t : TypeId} {V : Nat → Value} {xs : List Value} (h : St w0 S0 w L) (i : Nat) (hi : L[i]? = some (ArrR g t n V)) (hn : n ≤ maxLen) (hl : xs.length = n) (hx : ∀ j, j < n → xs[j]? = some (V j)) :
    St w0 S0 w (L.set i (LisR t 1 (.slice (some ⟨g, 0, none⟩) n n) n xs)) :=
  h.weak i hi (LisR.ok _ _ _ _ _) fun S ⟨arr, hb, hs, hv, hS⟩ => ⟨⟨by omega, Or.inr ⟨g, 0, n, arr, rfl, hb, Nat.le_refl _, hn, fun _ => by omega, fun j u hu => by
    have hj : j < n := by
      rcases Nat.lt_or_ge j xs.length with h | h
      · omega
      · rw [List.getElem?_eq_none h] at hu; cases hu
    rw [hx j hj] at hu
    rw [Nat.zero_add, hv j hj, hu]⟩⟩, fun b => by rw [hS b]; simp [Value.ownBlock, eq_comm]⟩
theorem be_at (V : Int) : ∀ (n j : Nat), j < n → (be V n)[j]? = some (V / 256 ^ (n - 1 - j) % 256)
  | 0, j, h => by omega
  | n + 1, 0, h => by simp [be]
  | n + 1, j + 1, h => by
    simp only [be, List.getElem?_cons_succ]
    rw [be_at V n j (by omega), show n + 1 - 1 - (j + 1) = n - 1 - j by omega]
theorem div_step (V : Int) (n z : Nat) (h : z < n) : V / 256 ^ (n - (z + 1)) / 256 = V / 256 ^ (n - z) := by
  have hp : (0 : Int) ≤ 256 ^ (n - (z + 1)) := Int.pow_nonneg (by omega)
  rw [Int.ediv_ediv, if_neg (by omega), Int.sub_zero, ← Int.pow_succ, show (n - (z + 1)).succ = n - z by omega]
theorem big_c (V : Int) (n : Nat) (hn : n ≤ 8) (hV : 0 ≤ V ∧ V < 18446744073709551616) (H : St w0 S0 w L) :
    Calls Try.prog 22 #[.int .u64 V, .int .i64 n] w fun e w' => ∃ g, e = .returned (.slice (some ⟨g, 0, none⟩) n n) ∧ St w0 S0 w' (L ++ [LisR 5 1 (.slice (some ⟨g, 0, none⟩) n n) n (bys (be V n))]) := by
  have HH := Lib.hid H
  clear H
  obtain ⟨i0, hi, hz0, hz1, hz2⟩ := info_parts Try.infoU8
  go_enter Try.func22, Try.ntmps22
  go_wp2_with (refine wpList_make_full _ rfl _ _ 28 rfl w.heap.size 5 i0 (.int .u8 0) 1 Try.underlying28 hi hz0 hz1 .i64 .i64 n n n rfl rfl rfl rfl (by rw [hz2]; omega) (by unfold maxLen; omega) (Nat.le_refl _) ?_; intro w3 hown hgrow)
  have s1 : St w None w3 [ArrR w.heap.size 5 n (fun _ => .int .u8 0)] := (St.begin w).make rfl hown hgrow
  generalize w.heap.size = g at *
  clear hown hgrow
  go_loopw [0, 6] (fun v i wr => ∃ z : Nat, z ≤ n ∧ i = .int .i64 ((z : Int) - 1) ∧ v = .int .u64 (V / 256 ^ (n - z)) ∧ St w None wr [ArrR g 5 n (fun j => .int .u8 (if j < z then 0 else V / 256 ^ (n - 1 - j) % 256))]) (fun _ i _ => (intOf i + 1).toNat)
  case atStart => exact ⟨n, by omega, rfl, by simp, s1.arr_like 0 rfl fun j hj => by simp [hj]⟩
  case round =>
    clear s1
    obtain ⟨z, hz, rfl, rfl, sr⟩ := hrel
    cases z with
    | zero =>
      have hd : decide ((0 : Int) ≤ ((0 : Nat) : Int) - 1) = false := decide_eq_false (by omega)
      have s2 : St w None _ [LisR _ _ _ _ _] := sr.arr_lis (xs := bys (be V n)) 0 rfl (by unfold maxLen; omega) (by simp [bys, be_len]) fun j hj => by simp [bys, be_at V n j hj]
      go_wp2_with fail
      go_ret
      obtain ⟨S', y1, y2, y3⟩ := s2.made
      exact ⟨g, rfl, HH.out.more y3 y1 y2⟩
    | succ z =>
      have hd : decide ((0 : Int) ≤ ((z + 1 : Nat) : Int) - 1) = true := decide_eq_true (by omega)
      have hzi : ((z + 1 : Nat) : Int) - 1 = (z : Int) := by omega
      rw [hzi] at *
      have hds := div_step V n z (by omega)
      have hpos : 0 ≤ V / 256 ^ (n - (z + 1)) ∧ V / 256 ^ (n - (z + 1)) < 18446744073709551616 := by
        refine ⟨Int.ediv_nonneg hV.1 (Int.pow_nonneg (by omega)), Int.lt_of_le_of_lt (Int.ediv_le_self _ hV.1) hV.2⟩
      have he : n - 1 - z = n - (z + 1) := by omega
      have s2 := fun u => sr.arr_set 0 rfl (k := z) (by omega) (.int .u8 u)
      have hcz := sr.arr_cell 0 rfl (k := z) (by omega)
      have hfz := sr.arr_frozen 0 rfl z
      have HS := Lib.hid s2
      have HE := Lib.hid he
      have HDS := Lib.hid hds
      clear s2 sr he hds
      generalize hX : V / 256 ^ (n - (z + 1)) = X at *
      have HX := Lib.hid hX
      clear hX
      go_wp2_with fail
      go_roundw
      case rel =>
        refine ⟨z, by omega, by go_num, by rw [← HDS.out], (HS.out (X % 256)).arr_like 0 rfl fun j hj => ?_⟩
        by_cases e : j = z
        · subst e; simp [HE.out, HX.out]
        · simp only [if_neg e]
          by_cases e2 : j < z
          · simp [e2, show j < z + 1 by omega]
          · simp [e2, show ¬ j < z + 1 by omega]
      case measure => simp [intOf]
end
end Go.Proofs.Ytninpnlmmaleaaa
