/- Layer 8: what the statements begin with: a pool of six buffers, of which four were got. -/
import Derived.Test.YtiaojhjghededaaRpC
import Derived.Test.YtiaojhjghededaaPieT
import Derived.Test.YtiaojhjghededaaPieF
import Derived.Test.YtiaojhjghededaaPieL
namespace Go.Proofs.Ytiaojhjghededaa
open Go.RowKit
set_option linter.unusedVariables false
set_option maxRecDepth 100000
set_option maxHeartbeats 1600000
def zB (j : Nat) : Int := [(8 : Int), 20].getD j 0
def cB (j : Nat) : Int := 3
theorem mayB : mayC 2 zB cB := by decide
theorem flatB : flatC zB cB 2 = [8, 8, 8, 20, 20, 20] := by decide
def gsl (k : Nat) : Nat := [0, 1, 3, 2].getD k 0
def gsz (k : Nat) : Int := [(1 : Int), 6, 11, 4].getD k 0
def gs : Nat → Nat → Buf
  | 0 => fresh [8, 8, 8, 20, 20, 20]
  | k + 1 => updB (gs k) (gsl k) (got (gs k (gsl k)))
instance (st : Nat → Buf) (z : Int) (j : Nat) : Decidable (fit st z j) := by unfold fit; infer_instance
instance decBufOk (G : Int) (b : Buf) : Decidable (b.ok G) := by unfold Buf.ok; infer_instance
theorem gs_ok (k : Nat) (hk : k ≤ 4) : POK 6 (gs k) 2 := ⟨by omega, by omega, by omega, fun i hi => by
  rcases (show k = 0 ∨ k = 1 ∨ k = 2 ∨ k = 3 ∨ k = 4 by omega) with rfl | rfl | rfl | rfl | rfl <;>
  rcases (show i = 0 ∨ i = 1 ∨ i = 2 ∨ i = 3 ∨ i = 4 ∨ i = 5 by omega) with rfl | rfl | rfl | rfl | rfl | rfl <;> decide⟩
theorem gs_get (k : Nat) (hk : k < 4) : GetP 6 (gs k) (gsz k) ((gsl k : Nat) : Int) 1 0 (gs (k + 1)) := by
  rcases (show k = 0 ∨ k = 1 ∨ k = 2 ∨ k = 3 by omega) with rfl | rfl | rfl | rfl
  · exact Or.inr (Or.inr ⟨by decide, 0, by decide, by decide, by decide, rfl, by decide, rfl, rfl⟩)
  · exact Or.inr (Or.inr ⟨by decide, 1, by decide, by decide, by decide, rfl, by decide, rfl, rfl⟩)
  · exact Or.inr (Or.inr ⟨by decide, 3, by decide, by decide, by decide, rfl, by decide, rfl, rfl⟩)
  · exact Or.inr (Or.inr ⟨by decide, 2, by decide, by decide, by decide, rfl, by decide, rfl, rfl⟩)
section
variable {w0 w : World} {S S0 : Nat → Prop} {N L : List Res}
theorem classes_c (w : World) : Calls Try.prog 20 #[] w fun e w' => e = .returned (.slice (some ⟨w.heap.size, 0, none⟩) 2 2) ∧ w' = w.alloc (.cells #[.int .i64 8, .int .i64 3, .int .i64 20, .int .i64 3] 48) := by
  go_enter Try.func20, Try.ntmps20
  go_wp2_with fail
  go_ret
  exact ⟨rfl, rfl⟩
theorem both_c (w : World) : Calls Try.prog 8 #[] w fun e w' => ∃ p r, e = .returned (.tuple #[.pointer (some ⟨p, 0, none⟩), .pointer (some ⟨r, 0, none⟩)]) ∧ St w None w' [PoolR p 6 (gs 4), RPR r 6 (gs 4)] := by
  have hcl : Cls (fun j i => (#[.int .i64 8, .int .i64 3, .int .i64 20, .int .i64 3] : Array Value).getD (j * 2 + i) (.bool false)) 2 zB cB := fun j hj => by
    rcases (show j = 0 ∨ j = 1 by omega) with rfl | rfl <;> refine ⟨rfl, rfl, ?_, ?_⟩ <;> decide
  have CL := Lib.hid classes_c
  have NW := Lib.hid (fun (W : World) (h : St w None W [BlkR w.heap.size 48 #[.int .i64 8, .int .i64 3, .int .i64 20, .int .i64 3]]) => new_o h (rdm_blk (k := 2) (m := 2) (h.blk 0 rfl) rfl) hcl mayB (cap := 2))
  have RN := Lib.hid (fun (W : World) (g : Nat) (L : List Res) (h : St w None W (L ++ [BlkR g 48 #[.int .i64 8, .int .i64 3, .int .i64 20, .int .i64 3]])) => RNew_o h (rdm_blk (k := 2) (m := 2) (h.blk L.length (g := g) (t := 48) (cs := #[.int .i64 8, .int .i64 3, .int .i64 20, .int .i64 3]) (by simp)) rfl) hcl mayB (cap := 2))
  have GO := Lib.hid gs_ok
  have GG := Lib.hid gs_get
  rw [flatB] at NW RN
  clear hcl
  go_enter Try.func8, Try.ntmps8
  go_wp2_with fail
  refine (CL.out w).mono ?_
  rintro e w1 ⟨rfl, rfl⟩
  have s1 : St w None _ [_] := (St.begin w).box 48 #[.int .i64 8, .int .i64 3, .int .i64 20, .int .i64 3]
  have K1 := Lib.hid (NW.out _ s1)
  clear s1
  go_wp2_with fail
  refine K1.out.mono ?_
  rintro e w2 ⟨p, rfl, s2'⟩
  have S2 := Lib.hid (show St w None w2 [PoolR p 6 (gs 0)] from s2'.drop 0 (by simp))
  clear s2' K1
  go_wp2_with fail
  refine (CL.out w2).mono ?_
  rintro e w3 ⟨rfl, rfl⟩
  have s3 : St w None _ ([PoolR p 6 (gs 0)] ++ [_]) := S2.out.box 48 #[.int .i64 8, .int .i64 3, .int .i64 20, .int .i64 3]
  have K3 := Lib.hid (RN.out _ _ _ s3)
  clear s3 S2
  go_wp2_with fail
  refine K3.out.mono ?_
  rintro e w4 ⟨r, rfl, s4'⟩
  have S4 := Lib.hid (show St w None w4 [PoolR p 6 (gs 0), RPR r 6 (gs 0)] from s4'.drop 1 (by simp))
  clear s4' K3
  go_wp2_with fail
  go_loopw [5] (fun i wr => ∃ k : Nat, k ≤ 4 ∧ i = .int .i64 k ∧ St w None wr [PoolR p 6 (gs k), RPR r 6 (gs k)]) (fun i _ => 4 - (intOf i).toNat)
  case atStart => exact ⟨0, by omega, rfl, S4.out⟩
  case round =>
    clear S4
    obtain ⟨k, hk, rfl, sr⟩ := hrel
    by_cases hlt : k < 4
    · have KG := Lib.hid (get_o sr 0 rfl (GO.out k hk) (GG.out k hlt))
      have KR := Lib.hid (fun (W : World) (h : St w None W [PoolR p 6 (gs (k + 1)), RPR r 6 (gs k)]) => RGet_o h 1 rfl (GO.out k hk) (GG.out k hlt))
      clear sr
      rcases (show k = 0 ∨ k = 1 ∨ k = 2 ∨ k = 3 by omega) with rfl | rfl | rfl | rfl
      all_goals
        go_wp2_with fail
        refine KG.out.mono ?_
        rintro e w5 ⟨rfl, s5⟩
        have S5 := Lib.hid s5
        clear s5
        go_wp2_with fail
        refine (KR.out _ (S5.out.alloc _)).mono ?_
        rintro e w6 ⟨rfl, s6⟩
        go_wp2_with fail
        go_roundw
        case rel => exact ⟨_, by omega, by go_num, s6⟩
        case measure => simp [intOf]
    · obtain rfl : k = 4 := by omega
      go_wp2_with fail
      go_ret2
      exact ⟨p, r, rfl, sr⟩
theorem both_o (H : St w0 S0 w L) : Calls Try.prog 8 #[] w fun e w' => ∃ p r, e = .returned (.tuple #[.pointer (some ⟨p, 0, none⟩), .pointer (some ⟨r, 0, none⟩)]) ∧ St w0 S0 w' (L ++ [PoolR p 6 (gs 4)]) :=
  (both_c w).mono fun e w' ⟨p, r, he, hs⟩ => ⟨p, r, he, H.join (show St w None w' [PoolR p 6 (gs 4)] from hs.drop 1 (by simp))⟩
end
end Go.Proofs.Ytiaojhjghededaa
