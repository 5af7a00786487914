/- Rows of bytes, and of numbers, as lists; boxes, and rows that were made; nothing of one law. -/
import Derived.Test.YtiaojhjghededaaRows
import Derived.Test.YtiaojhjghededaaRd
import Derived.WalkKit
import Derived.Lib.Hide
import Derived.Test.YtiaojhjghededaaSep
import Derived.Test.YtiaojhjghededaaLis
import Derived.Test.YtiaojhjghededaaFam
import Derived.LoopTactic
import Derived.IntWalk
import Derived.Laws.BitsAllLaws
import Derived.Deep.DeepCutAuto
import Derived.BigRegion
namespace Go.Proofs.Ytiaojhjghededaa
open Go.RowKit
set_option linter.unusedVariables false
set_option maxRecDepth 100000
set_option maxHeartbeats 400000
/-- Numbers as bytes in memory. -/
def bys (xs : List Int) : List Value := xs.map (Value.int .u8)
theorem bys_len (xs : List Int) : (bys xs).length = xs.length := by simp [bys]
theorem bys_snoc (xs : List Int) (x : Int) : bys (xs ++ [x]) = bys xs ++ [.int .u8 x] := by simp [bys]
theorem bys_one (xs : List Int) : ∀ u ∈ bys xs, u.oneCell' = true := by
  intro u hu
  obtain ⟨x, _, rfl⟩ := List.mem_map.1 hu
  rfl
theorem bys_app (xs ys : List Int) : bys (xs ++ ys) = bys xs ++ bys ys := by simp [bys]
theorem Try.infoU8 : (Try.prog.info? 5).map (fun i => (i.zero, i.size, i.bytes)) = some (some (.int .u8 0), 1, 1) := by kernel_rfl
/-- A list of bytes, to be read. -/
theorem rd_bys {w : World} {B : Option Addr} {n cap : Nat} {xs : List Int} (h : Lis w 5 1 (.slice B n cap) n (bys xs)) : Rd w B n (fun j => .int .u8 (xs.getD j 0)) := by
  intro hn
  have hl : xs.length = n := by simpa [bys_len] using h.1
  rcases h.reads.2 with h0 | ⟨g, off, rfl, hc⟩
  · omega
  · refine ⟨g, off, rfl, h.lt rfl, fun j hj => ?_⟩
    rw [hc j (.int .u8 (xs.getD j 0)) (by simp [bys, List.getD, show j < xs.length by omega])]
theorem rds_of_rd {w : World} {A : Option Addr} {n : Nat} {f : Nat → Int} (rd : Rd w A n (fun j => .int .u8 (f j))) : Rds w A n 1 (bys ((List.range n).map f)) :=
  ⟨by simp [bys], by
    by_cases h0 : n = 0
    · exact Or.inl h0
    · obtain ⟨b, off, rfl, hbl, hc⟩ := rd (by omega)
      refine Or.inr ⟨b, off, rfl, fun j u hu => ?_⟩
      have hj : j < n := by
        rcases Nat.lt_or_ge j n with h | h
        · exact h
        · rw [List.getElem?_eq_none (by simp [bys]; omega)] at hu; cases hu
      have e : u = .int .u8 (f j) := by simpa [bys, hj] using hu.symm
      rw [e]
      exact hc j hj⟩
theorem bys_set (xs : List Int) (i : Nat) (z : Int) : (bys xs).set i (.int .u8 z) = bys (xs.set i z) := by simp [bys]
theorem bys_get {xs : List Int} {i : Nat} {y : Int} (h : xs[i]? = some y) : (bys xs)[i]? = some (.int .u8 y) := by simp [bys, h]
theorem set_ne {xs : List Int} {i j : Nat} (z : Int) (h : j ≠ i) : (xs.set i z).getD j 0 = xs.getD j 0 := by simp [List.getD, List.getElem?_set_ne (Ne.symm h)]
theorem set_eq {xs : List Int} {i : Nat} (z : Int) (h : i < xs.length) : (xs.set i z).getD i 0 = z := by simp [List.getD, h]
theorem map_get {f : Nat → Int} {n j : Nat} (h : j < n) : ((List.range n).map f).getD j 0 = f j := by simp [List.getD, h]
theorem map_get' {f : Nat → Int} {n j : Nat} (h : j < n) : ((List.range n).map f)[j]? = some (f j) := by simp [h]
theorem beq_iff {a b : Bool} (h : a = true ↔ b = true) : (a == b) = true := by cases a <;> cases b <;> simp_all
section
variable {w0 w : World} {S0 : Nat → Prop} {L : List Res}
theorem St.box2 (h : St w0 S0 w L) (t1 t2 : TypeId) (c1 c2 : Array Value) : St w0 S0 ((w.alloc (.cells c1 t1)).alloc (.cells c2 t2)) (L ++ [BlkR w.heap.size t1 c1] ++ [BlkR (w.heap.size + 1) t2 c2]) := by
  have := (h.box t1 c1).box t2 c2
  rwa [show (w.alloc (.cells c1 t1)).heap.size = w.heap.size + 1 by simp] at this
/-- A row made whole, as a list. -/
theorem St.arr_lis {g n : Nat} {t : TypeId} {V : Nat → Value} {xs : List Value} (h : St w0 S0 w L) (i : Nat) (hi : L[i]? = some (ArrR g t n V)) (hn : n ≤ maxLen) (hl : xs.length = n) (hx : ∀ j, j < n → xs[j]? = some (V j)) :
    St w0 S0 w (L.set i (LisR t 1 (.slice (some ⟨g, 0, none⟩) n n) n xs)) :=
  h.weak i hi (LisR.ok _ _ _ _ _) fun S ⟨arr, hb, hs, hv, hS⟩ => ⟨⟨by omega, Or.inr ⟨g, 0, n, arr, rfl, hb, Nat.le_refl _, hn, fun _ => by omega, fun j u hu => by
    have hj : j < n := by
      rcases Nat.lt_or_ge j xs.length with h | h
      · omega
      · rw [List.getElem?_eq_none h] at hu; cases hu
    rw [hx j hj] at hu
    rw [Nat.zero_add, hv j hj, hu]⟩⟩, fun b => by rw [hS b]; simp [Value.ownBlock, eq_comm]⟩
theorem lis_cap {A : Option Addr} {n cap e size : Nat} {xs : List Value} (h : Lis w e size (.slice A n cap) n xs) : n ≤ cap ∧ cap ≤ maxLen := by
  obtain ⟨A', cap', hv, h1, h2⟩ := h.shape
  injection hv with _ _ hc
  subst hc
  exact ⟨h1, h2⟩
theorem St.box3 {w0 w : World} {S0 : Nat → Prop} {L : List Res} (h : St w0 S0 w L) (t1 t2 t3 : TypeId) (c1 c2 c3 : Array Value) : St w0 S0 (((w.alloc (.cells c1 t1)).alloc (.cells c2 t2)).alloc (.cells c3 t3)) (L ++ [BlkR w.heap.size t1 c1] ++ [BlkR (w.heap.size + 1) t2 c2] ++ [BlkR (w.heap.size + 2) t3 c3]) := by
  have := (h.box2 t1 t2 c1 c2).box t3 c3
  rwa [show ((w.alloc (.cells c1 t1)).alloc (.cells c2 t2)).heap.size = w.heap.size + 2 by simp] at this
end
section
variable {w : World} {A B : Option Addr} {n m cap cap2 : Nat} {f g : Nat → Int}
/-- Of rows as long as one another: the same, if each byte is. -/
theorem same_eq (rd : Rd w A n (fun j => .int .u8 (f j))) (rd2 : Rd w B n (fun j => .int .u8 (g j))) (hm : n ≤ maxLen) (x : Bool) (hx : x = decide (∀ j, j < n → f j = g j)) :
    Calls Try.prog 13 #[.slice A n cap, .slice B n cap2] w fun e w' => e = .returned (.bool x) ∧ Below w.heap.size w w' := by
  unfold maxLen at hm
  have HX := Lib.hid hx
  clear hx
  go_enter Try.func13, Try.ntmps13
  go_wp2_with fail
  go_loopw [5] (fun i wr => ∃ k : Nat, k ≤ n ∧ i = .int .i64 k ∧ (∀ j, j < k → f j = g j) ∧ St w None wr []) (fun i _ => n - (intOf i).toNat)
  case atStart => exact ⟨0, by omega, rfl, fun j hj => absurd hj (by omega), St.begin w⟩
  case round =>
    obtain ⟨k, hk, rfl, heq, sr⟩ := hrel
    by_cases hlt : k < n
    · obtain ⟨b, off, rfl, hb, hcell⟩ := rd.below sr.below (Nat.le_refl _) (by omega)
      obtain ⟨b2, off2, rfl, hb2, hcell2⟩ := rd2.below sr.below (Nat.le_refl _) (by omega)
      have c1 := hcell k hlt
      have c2 := hcell2 k hlt
      dsimp only at c1 c2
      have HQ := Lib.hid heq
      have SR := Lib.hid sr
      clear hcell hcell2 heq sr
      generalize hy : f k = y at *
      generalize hz : g k = z at *
      have i0 : (0 : Int) ≤ (k : Int) := by omega
      have i1 : (k : Int) < (n : Int) := by omega
      by_cases e : y = z
      · have d1 : (y != z) = false := by simp [bne, e]
        have HE := Lib.hid (show ∀ j, j < k + 1 → f j = g j from fun j hj => by
          by_cases e2 : j = k
          · rw [e2, hy, hz, e]
          · exact HQ.out j (by omega))
        clear e hy hz
        go_wp2_with fail
        go_quiet (fail)
        go_wp2_with fail
        go_roundw
        case rel => exact ⟨k + 1, by omega, by go_num, HE.out, SR.out.drewN _⟩
        case measure => simp [intOf]; omega
      · have d1 : (y != z) = true := by simp [bne, e]
        have HE := Lib.hid (show x = false by
          rw [HX.out]
          exact decide_eq_false fun h => e (by rw [← hy, ← hz]; exact h k hlt))
        clear e hy hz
        go_wp2_with fail
        go_quiet (fail)
        go_wp2_with fail
        go_ret
        exact ⟨by rw [HE.out]; rfl, (SR.out.drewN _).below⟩
    · obtain rfl : k = n := by omega
      have HE := Lib.hid (show x = true by rw [HX.out]; exact decide_eq_true heq)
      clear heq
      go_wp2
      go_ret
      exact ⟨by rw [HE.out]; rfl, sr.below⟩
/-- Of rows not as long as one another: not the same. -/
theorem same_len (w : World) (h : n ≠ m) :
    Calls Try.prog 13 #[.slice A n cap, .slice B m cap2] w fun e w' => e = .returned (.bool false) ∧ w = w' := by
  have d1 : ((n : Int) != (m : Int)) = true := by simp [bne]; omega
  go_enter Try.func13, Try.ntmps13
  go_wp2_with fail
  go_ret
  exact ⟨rfl, rfl⟩
end
end Go.Proofs.Ytiaojhjghededaa
