/- Layer 9: numbers written as bytes. -/
import Derived.Test.YtninpnlmmaleaaaDescM
import Derived.LoopTactic
import Derived.IntWalk
namespace Go.Proofs.Ytninpnlmmaleaaa
open Go.RowKit
set_option linter.unusedVariables false
set_option maxRecDepth 100000
set_option maxHeartbeats 800000
theorem Try.infoU8 : (Try.prog.info? 5).map (fun i => (i.zero, i.size, i.bytes)) = some (some (.int .u8 0), 1, 1) := by kernel_rfl
def fcs : List (Int × Nat) → List Value
  | [] => []
  | p :: l => .int .i64 p.1 :: .int .i64 (p.2 : Int) :: fcs l
theorem fcs_at : ∀ (l : List (Int × Nat)) (k : Nat) (p : Int × Nat), l[k]? = some p → (fcs l)[k * 2]? = some (.int .i64 p.1) ∧ (fcs l)[k * 2 + 1]? = some (.int .i64 (p.2 : Int))
  | [], k, p, h => by simp at h
  | q :: l, 0, p, h => by simp at h; subst h; exact ⟨rfl, rfl⟩
  | q :: l, k + 1, p, h => by
    have := fcs_at l k p (by simpa using h)
    rw [show (k + 1) * 2 = k * 2 + 1 + 1 by omega]
    simpa [fcs] using this
section
variable {w0 w : World} {S0 : Nat → Prop} {X : Res}
theorem write_c {A : Option Addr} {n cap g c : Nat} {xs : List Int} (fs : List (Int × Nat)) (hfs : ∀ p ∈ fs, (0 ≤ p.1 ∧ p.1 < 1099511627776) ∧ p.2 ≤ 4) (hlen : (xs ++ beAll fs).length ≤ 100) (m : Nat) (hm : fs.length = m) (hm8 : m ≤ 100)
    (H : St w0 S0 w [X, LisR 5 1 (.slice A n cap) n (bys xs), BlkR g 51 (fcs fs).toArray]) :
    Calls Try.prog 19 #[.slice A n cap, .slice (some ⟨g, 0, none⟩) m c] w fun e w' => ∃ B cap', e = .returned (.slice B (xs ++ beAll fs).length cap') ∧ St w0 S0 w' [X, LisR 5 1 (.slice B (xs ++ beAll fs).length cap') (xs ++ beAll fs).length (bys (xs ++ beAll fs)), BlkR g 51 (fcs fs).toArray] := by
  obtain ⟨i0, hi, hz0, hz1, hz2⟩ := info_parts Try.infoU8
  have hn : n = xs.length := by have := (H.lis 1 rfl).1; simpa [bys_len] using this.symm
  subst hn
  have HT : ∃ T, T = xs ++ beAll fs := ⟨_, rfl⟩
  obtain ⟨T, hT⟩ := HT
  rw [← hT] at hlen ⊢
  go_enter Try.func19, Try.ntmps19
  go_wp2_with fail
  go_loopw [0, 10] (fun b k wr => ∃ (q : Nat) (ys : List Int) (B : Option Addr) (c : Nat), q ≤ m ∧ k = .int .i64 q ∧ b = .slice B ys.length c ∧ ys ++ beAll (fs.drop q) = T ∧ St w0 S0 wr [X, LisR 5 1 (.slice B ys.length c) ys.length (bys ys), BlkR g 51 (fcs fs).toArray]) (fun _ k _ => m - (intOf k).toNat)
  case atStart => exact ⟨0, xs, A, cap, by omega, rfl, rfl, hT.symm, H⟩
  case round =>
    clear H
    obtain ⟨q, ys, B, c, hq, rfl, rfl, hys, sr⟩ := hrel
    by_cases hlt : q < m
    · obtain ⟨p, hp⟩ : ∃ p, fs[q]? = some p := ⟨_, List.getElem?_eq_getElem (by omega)⟩
      have hpf := hfs p (List.mem_of_getElem? hp)
      obtain ⟨e0, e1⟩ := fcs_at fs q p hp
      have b2 := (sr.blk 2 rfl).cell
      have c0 := (b2 (q * 2)).trans (by simpa using e0)
      have c1 := (b2 (q * 2 + 1)).trans (by simpa using e1)
      have hd : fs.drop q = p :: fs.drop (q + 1) := by
        obtain ⟨h1, h2⟩ := List.getElem?_eq_some_iff.1 hp
        rw [← h2, List.drop_eq_getElem_cons h1]
      rw [hd] at hys
      have HYS := Lib.hid hys
      clear b2 e0 e1 hd hys hp hfs hT
      obtain ⟨N, Z⟩ := p
      dsimp only at *
      go_wp2_with fail
      have s2 : St w0 S0 _ [X, LisR 5 1 (.slice B ys.length c) ys.length (bys ys), BlkR g 51 (fcs fs).toArray, BlkR wr.heap.size 51 #[.int .i64 N, .int .i64 (Z : Int)]] := sr.box 51 #[.int .i64 N, .int .i64 (Z : Int)]
      generalize wr.heap.size = h at *
      clear sr c0 c1
      go_loopw [0, 7] (fun b l wr => ∃ (z : Nat) (ys : List Int) (B : Option Addr) (c : Nat), z ≤ 4 ∧ l = .int .i64 ((z : Int) - 1) ∧ b = .slice B ys.length c ∧ ys ++ (be N z ++ beAll (fs.drop (q + 1))) = T ∧ St w0 S0 wr [X, LisR 5 1 (.slice B ys.length c) ys.length (bys ys), BlkR g 51 (fcs fs).toArray, BlkR h 51 #[.int .i64 N, .int .i64 (Z : Int)]]) (fun _ l _ => (intOf l + 1).toNat)
      case atStart => exact ⟨Z, ys, B, c, hpf.2, rfl, rfl, HYS.out, s2⟩
      case round =>
        clear s2 HYS
        obtain ⟨z, ys, B, c, hz, rfl, rfl, hys, sr⟩ := hrel
        cases z with
        | zero =>
          have hd : decide ((0 : Int) ≤ ((0 : Nat) : Int) - 1) = false := decide_eq_false (by omega)
          have s3 : St w0 S0 _ [X, _, _] := sr.drop 3 (by simp)
          clear sr
          go_wp2_with fail
          go_roundw
          case rel => exact ⟨q + 1, ys, B, c, by omega, by go_num, rfl, by simpa [be] using hys, s3⟩
          case measure => simp [intOf]; omega
        | succ z =>
          have hd : decide ((0 : Int) ≤ ((z + 1 : Nat) : Int) - 1) = true := decide_eq_true (by omega)
          have hle : ys.length + 1 ≤ 100 := by
            have := congrArg List.length hys
            simp [be] at this
            omega
          have c0 := (sr.blk 3 rfl).two.1
          obtain ⟨V, hV⟩ : ∃ V, N / 256 ^ z % 256 = V := ⟨_, rfl⟩
          have HYS := Lib.hid (show (ys ++ [V]) ++ (be N z ++ beAll (fs.drop (q + 1))) = T by rw [← hys, ← hV]; simp [be])
          clear hys
          rcases (show z = 0 ∨ z = 1 ∨ z = 2 ∨ z = 3 by omega) with rfl | rfl | rfl | rfl
          · have hV : N % 256 = V := by rw [← hV]; simp
            have s3 := sr.alloc (.cells #[.int .u8 V] 5)
            have hl3 := s3.lis 1 rfl
            have hr3 := rds_box wr 5 (.int .u8 V)
            go_wp2_with (at_builtin; refine wpList_lis rfl (.tmp 21) (.tmp 28) 28 rfl 5 i0 (.int .u8 0) 1 1 Try.underlying28 hi hz0 hz1 hz2 rfl (by decide) _ _ _ rfl hl3 (some ⟨wr.heap.size, 0, none⟩) 1 1 [.int .u8 V] rfl hr3 (by simp [Value.oneCell']) (by unfold maxLen; omega) (by omega) ?_; intro B4 cap4 w4 hl4 hg4 hat4)
            go_roundw
            case rel => exact ⟨0, ys ++ [V], B4, cap4, by omega, by go_num, by simp, HYS.out, by have s4 := s3.lis_put 1 rfl hl4 hg4 hat4; rw [← bys_snoc] at s4; simpa using s4⟩
            case measure => simp [intOf]
          · have hV : N / 256 % 256 = V := by rw [← hV]; simp
            have s3 := sr.alloc (.cells #[.int .u8 V] 5)
            have hl3 := s3.lis 1 rfl
            have hr3 := rds_box wr 5 (.int .u8 V)
            go_wp2_with (at_builtin; refine wpList_lis rfl (.tmp 21) (.tmp 28) 28 rfl 5 i0 (.int .u8 0) 1 1 Try.underlying28 hi hz0 hz1 hz2 rfl (by decide) _ _ _ rfl hl3 (some ⟨wr.heap.size, 0, none⟩) 1 1 [.int .u8 V] rfl hr3 (by simp [Value.oneCell']) (by unfold maxLen; omega) (by omega) ?_; intro B4 cap4 w4 hl4 hg4 hat4)
            go_roundw
            case rel => exact ⟨1, ys ++ [V], B4, cap4, by omega, by go_num, by simp, HYS.out, by have s4 := s3.lis_put 1 rfl hl4 hg4 hat4; rw [← bys_snoc] at s4; simpa using s4⟩
            case measure => simp [intOf]
          · have hV : N / 65536 % 256 = V := by rw [← hV]; simp
            have s3 := sr.alloc (.cells #[.int .u8 V] 5)
            have hl3 := s3.lis 1 rfl
            have hr3 := rds_box wr 5 (.int .u8 V)
            go_wp2_with (at_builtin; refine wpList_lis rfl (.tmp 21) (.tmp 28) 28 rfl 5 i0 (.int .u8 0) 1 1 Try.underlying28 hi hz0 hz1 hz2 rfl (by decide) _ _ _ rfl hl3 (some ⟨wr.heap.size, 0, none⟩) 1 1 [.int .u8 V] rfl hr3 (by simp [Value.oneCell']) (by unfold maxLen; omega) (by omega) ?_; intro B4 cap4 w4 hl4 hg4 hat4)
            go_roundw
            case rel => exact ⟨2, ys ++ [V], B4, cap4, by omega, by go_num, by simp, HYS.out, by have s4 := s3.lis_put 1 rfl hl4 hg4 hat4; rw [← bys_snoc] at s4; simpa using s4⟩
            case measure => simp [intOf]
          · have hV : N / 16777216 % 256 = V := by rw [← hV]; simp
            have s3 := sr.alloc (.cells #[.int .u8 V] 5)
            have hl3 := s3.lis 1 rfl
            have hr3 := rds_box wr 5 (.int .u8 V)
            go_wp2_with (at_builtin; refine wpList_lis rfl (.tmp 21) (.tmp 28) 28 rfl 5 i0 (.int .u8 0) 1 1 Try.underlying28 hi hz0 hz1 hz2 rfl (by decide) _ _ _ rfl hl3 (some ⟨wr.heap.size, 0, none⟩) 1 1 [.int .u8 V] rfl hr3 (by simp [Value.oneCell']) (by unfold maxLen; omega) (by omega) ?_; intro B4 cap4 w4 hl4 hg4 hat4)
            go_roundw
            case rel => exact ⟨3, ys ++ [V], B4, cap4, by omega, by go_num, by simp, HYS.out, by have s4 := s3.lis_put 1 rfl hl4 hg4 hat4; rw [← bys_snoc] at s4; simpa using s4⟩
            case measure => simp [intOf]
    · obtain rfl : q = m := by omega
      rw [List.drop_eq_nil_of_le (by omega)] at hys
      obtain rfl : ys = T := by simpa [beAll] using hys
      go_wp2_with fail
      go_ret
      exact ⟨B, c, rfl, sr⟩
end
end Go.Proofs.Ytninpnlmmaleaaa
