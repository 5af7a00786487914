/- PoA: Bys PoolM PoolW PoolS PoolT PoolU PoolV PoolX PoolY PoolZ PoolN PoolO PoolP in a namespace of their own. Printed by bin/nsgen.py. -/
import Derived.Test.YtdjhpdacglojaaaGreatRows
import Derived.Test.YtdjhpdacglojaaaGreatRd
import Derived.WalkKit
import Derived.Lib.Hide
import Derived.Test.YtdjhpdacglojaaaGreatSep
import Derived.Test.YtdjhpdacglojaaaGreatLis
import Derived.Test.YtdjhpdacglojaaaGreatFam
import Derived.LoopTactic
import Derived.IntWalk
import Derived.Laws.BitsAllLaws
import Derived.Deep.DeepCutAuto
import Derived.BigRegion
import Derived.Test.YtdjhpdacglojaaaGreatGrid
import Derived.Deep.RegionLaw
import Derived.Deep.RegionWith
import Derived.Deep.RegionHeld3
import Derived.Test.YtdjhpdacglojaaaGreatCopy
import Derived.Test.YtdjhpdacglojaaaGreatFlat
namespace Go.Proofs.YtdjhpdacglojaaaGreat
open Go.RowKit
namespace po
section
set_option linter.unusedVariables false
set_option maxRecDepth 100000
set_option maxHeartbeats 400000
/-- Numbers as bytes in memory. -/
def bys (xs : List Int) : List Value := xs.map (Value.int .u8)
theorem bys_len (xs : List Int) : (bys xs).length = xs.length := by simp [bys]
theorem bys_snoc (xs : List Int) (x : Int) : bys (xs ++ [x]) = bys xs ++ [.int .u8 x] := by simp [bys]
theorem bys_one (xs : List Int) : ∀ u ∈ bys xs, u.oneCell' = true := by
  intro u hu
  obtain ⟨x, _, rfl⟩ := List.mem_map.1 hu
  rfl
theorem bys_app (xs ys : List Int) : bys (xs ++ ys) = bys xs ++ bys ys := by simp [bys]
theorem Tryz.infoU8 : (Tryz.prog.info? 5).map (fun i => (i.zero, i.size, i.bytes)) = some (some (.int .u8 0), 1, 1) := by kernel_rfl
/-- A list of bytes, to be read. -/
theorem rd_bys {w : World} {B : Option Addr} {n cap : Nat} {xs : List Int} (h : Lis w 5 1 (.slice B n cap) n (bys xs)) : Rd w B n (fun j => .int .u8 (xs.getD j 0)) := by
  intro hn
  have hl : xs.length = n := by simpa [bys_len] using h.1
  rcases h.reads.2 with h0 | ⟨g, off, rfl, hc⟩
  · omega
  · refine ⟨g, off, rfl, h.lt rfl, fun j hj => ?_⟩
    rw [hc j (.int .u8 (xs.getD j 0)) (by simp [bys, List.getD, show j < xs.length by omega])]
theorem rds_of_rd {w : World} {A : Option Addr} {n : Nat} {f : Nat → Int} (rd : Rd w A n (fun j => .int .u8 (f j))) : Rds w A n 1 (bys ((List.range n).map f)) :=
  ⟨by simp [bys], by
    by_cases h0 : n = 0
    · exact Or.inl h0
    · obtain ⟨b, off, rfl, hbl, hc⟩ := rd (by omega)
      refine Or.inr ⟨b, off, rfl, fun j u hu => ?_⟩
      have hj : j < n := by
        rcases Nat.lt_or_ge j n with h | h
        · exact h
        · rw [List.getElem?_eq_none (by simp [bys]; omega)] at hu; cases hu
      have e : u = .int .u8 (f j) := by simpa [bys, hj] using hu.symm
      rw [e]
      exact hc j hj⟩
theorem bys_set (xs : List Int) (i : Nat) (z : Int) : (bys xs).set i (.int .u8 z) = bys (xs.set i z) := by simp [bys]
theorem bys_get {xs : List Int} {i : Nat} {y : Int} (h : xs[i]? = some y) : (bys xs)[i]? = some (.int .u8 y) := by simp [bys, h]
theorem set_ne {xs : List Int} {i j : Nat} (z : Int) (h : j ≠ i) : (xs.set i z).getD j 0 = xs.getD j 0 := by simp [List.getD, List.getElem?_set_ne (Ne.symm h)]
theorem set_eq {xs : List Int} {i : Nat} (z : Int) (h : i < xs.length) : (xs.set i z).getD i 0 = z := by simp [List.getD, h]
theorem map_get {f : Nat → Int} {n j : Nat} (h : j < n) : ((List.range n).map f).getD j 0 = f j := by simp [List.getD, h]
theorem map_get' {f : Nat → Int} {n j : Nat} (h : j < n) : ((List.range n).map f)[j]? = some (f j) := by simp [h]
theorem beq_iff {a b : Bool} (h : a = true ↔ b = true) : (a == b) = true := by cases a <;> cases b <;> simp_all
section
variable {w0 w : World} {S0 : Nat → Prop} {L : List Res}
theorem _root_.Go.Proofs.YtdjhpdacglojaaaGreat.St.box2 (h : St w0 S0 w L) (t1 t2 : TypeId) (c1 c2 : Array Value) : St w0 S0 ((w.alloc (.cells c1 t1)).alloc (.cells c2 t2)) (L ++ [BlkR w.heap.size t1 c1] ++ [BlkR (w.heap.size + 1) t2 c2]) := by
  have := (h.box t1 c1).box t2 c2
  rwa [show (w.alloc (.cells c1 t1)).heap.size = w.heap.size + 1 by simp] at this
/-- A row made whole, as a list. -/
theorem _root_.Go.Proofs.YtdjhpdacglojaaaGreat.St.arr_lis {g n : Nat} {t : TypeId} {V : Nat → Value} {xs : List Value} (h : St w0 S0 w L) (i : Nat) (hi : L[i]? = some (ArrR g t n V)) (hn : n ≤ maxLen) (hl : xs.length = n) (hx : ∀ j, j < n → xs[j]? = some (V j)) :
    St w0 S0 w (L.set i (LisR t 1 (.slice (some ⟨g, 0, none⟩) n n) n xs)) :=
  h.weak i hi (LisR.ok _ _ _ _ _) fun S ⟨arr, hb, hs, hv, hS⟩ => ⟨⟨by omega, Or.inr ⟨g, 0, n, arr, rfl, hb, Nat.le_refl _, hn, fun _ => by omega, fun j u hu => by
    have hj : j < n := by
      rcases Nat.lt_or_ge j xs.length with h | h
      · omega
      · rw [List.getElem?_eq_none h] at hu; cases hu
    rw [hx j hj] at hu
    rw [Nat.zero_add, hv j hj, hu]⟩⟩, fun b => by rw [hS b]; simp [Value.ownBlock, eq_comm]⟩
theorem lis_cap {A : Option Addr} {n cap e size : Nat} {xs : List Value} (h : Lis w e size (.slice A n cap) n xs) : n ≤ cap ∧ cap ≤ maxLen := by
  obtain ⟨A', cap', hv, h1, h2⟩ := h.shape
  injection hv with _ _ hc
  subst hc
  exact ⟨h1, h2⟩
theorem _root_.Go.Proofs.YtdjhpdacglojaaaGreat.St.box3 {w0 w : World} {S0 : Nat → Prop} {L : List Res} (h : St w0 S0 w L) (t1 t2 t3 : TypeId) (c1 c2 c3 : Array Value) : St w0 S0 (((w.alloc (.cells c1 t1)).alloc (.cells c2 t2)).alloc (.cells c3 t3)) (L ++ [BlkR w.heap.size t1 c1] ++ [BlkR (w.heap.size + 1) t2 c2] ++ [BlkR (w.heap.size + 2) t3 c3]) := by
  have := (h.box2 t1 t2 c1 c2).box t3 c3
  rwa [show ((w.alloc (.cells c1 t1)).alloc (.cells c2 t2)).heap.size = w.heap.size + 2 by simp] at this
end
section
variable {w : World} {A B : Option Addr} {n m cap cap2 : Nat} {f g : Nat → Int}
/-- Of rows as long as one another: the same, if each byte is. -/
theorem same_eq (rd : Rd w A n (fun j => .int .u8 (f j))) (rd2 : Rd w B n (fun j => .int .u8 (g j))) (hm : n ≤ maxLen) (x : Bool) (hx : x = decide (∀ j, j < n → f j = g j)) :
    Calls Tryz.prog 28 #[.slice A n cap, .slice B n cap2] w fun e w' => e = .returned (.bool x) ∧ Below w.heap.size w w' := by
  unfold maxLen at hm
  have HX := Lib.hid hx
  clear hx
  go_enter Tryz.func28, Tryz.ntmps28
  go_wp2_with fail
  go_loopw [5] (fun i wr => ∃ k : Nat, k ≤ n ∧ i = .int .i64 k ∧ (∀ j, j < k → f j = g j) ∧ St w None wr []) (fun i _ => n - (intOf i).toNat)
  case atStart => exact ⟨0, by omega, rfl, fun j hj => absurd hj (by omega), St.begin w⟩
  case round =>
    obtain ⟨k, hk, rfl, heq, sr⟩ := hrel
    by_cases hlt : k < n
    · obtain ⟨b, off, rfl, hb, hcell⟩ := rd.below sr.below (Nat.le_refl _) (by omega)
      obtain ⟨b2, off2, rfl, hb2, hcell2⟩ := rd2.below sr.below (Nat.le_refl _) (by omega)
      have c1 := hcell k hlt
      have c2 := hcell2 k hlt
      dsimp only at c1 c2
      have HQ := Lib.hid heq
      have SR := Lib.hid sr
      clear hcell hcell2 heq sr
      generalize hy : f k = y at *
      generalize hz : g k = z at *
      have i0 : (0 : Int) ≤ (k : Int) := by omega
      have i1 : (k : Int) < (n : Int) := by omega
      by_cases e : y = z
      · have d1 : (y != z) = false := by simp [bne, e]
        have HE := Lib.hid (show ∀ j, j < k + 1 → f j = g j from fun j hj => by
          by_cases e2 : j = k
          · rw [e2, hy, hz, e]
          · exact HQ.out j (by omega))
        clear e hy hz
        go_wp2_with fail
        go_quiet (fail)
        go_wp2_with fail
        go_roundw
        case rel => exact ⟨k + 1, by omega, by go_num, HE.out, SR.out.drewN _⟩
        case measure => simp [intOf]; omega
      · have d1 : (y != z) = true := by simp [bne, e]
        have HE := Lib.hid (show x = false by
          rw [HX.out]
          exact decide_eq_false fun h => e (by rw [← hy, ← hz]; exact h k hlt))
        clear e hy hz
        go_wp2_with fail
        go_quiet (fail)
        go_wp2_with fail
        go_ret
        exact ⟨by rw [HE.out]; rfl, (SR.out.drewN _).below⟩
    · obtain rfl : k = n := by omega
      have HE := Lib.hid (show x = true by rw [HX.out]; exact decide_eq_true heq)
      clear heq
      go_wp2
      go_ret
      exact ⟨by rw [HE.out]; rfl, sr.below⟩
/-- Of rows not as long as one another: not the same. -/
theorem same_len (w : World) (h : n ≠ m) :
    Calls Tryz.prog 28 #[.slice A n cap, .slice B m cap2] w fun e w' => e = .returned (.bool false) ∧ w = w' := by
  have d1 : ((n : Int) != (m : Int)) = true := by simp [bne]; omega
  go_enter Tryz.func28, Tryz.ntmps28
  go_wp2_with fail
  go_ret
  exact ⟨rfl, rfl⟩
end
end
section
set_option linter.unusedVariables false
set_option maxRecDepth 100000
set_option maxHeartbeats 400000
/-- A buffer. -/
structure Buf where
  gen : Int
  owner : Int
  refs : Int
  bs : List Int
def Buf.ok (G : Int) (b : Buf) : Prop := (0 ≤ b.gen ∧ b.gen ≤ G) ∧ (0 ≤ b.owner ∧ b.owner ≤ 3) ∧ (0 ≤ b.refs ∧ b.refs ≤ 100) ∧ b.bs.length ≤ 65536
/-- A pool that may be. -/
structure POK (n : Nat) (st : Nat → Buf) (G : Int) : Prop where
  n1 : 1 ≤ n
  n2 : n ≤ 800
  g : G < 9223372036854775807
  b : ∀ i, i < n → (st i).ok G
/-- A row of bytes. -/
abbrev BR (b : Nat) (bs : List Int) : Res := LisR 5 1 (.slice (some ⟨b, 0, none⟩) bs.length bs.length) bs.length (bys bs)
/-- A buffer's cells. -/
def bv (st : Nat → Buf) (bp : Nat → Nat) (j : Nat) : Nat → Value
  | 0 => .slice (some ⟨bp j, 0, none⟩) (st j).bs.length (st j).bs.length
  | 1 => .int .u64 (st j).gen
  | 2 => .int .i64 (st j).owner
  | _ => .int .i64 (st j).refs
def PoolL (p bb off cap : Nat) (bp : Nat → Nat) (n : Nat) (st : Nat → Buf) : List Res :=
  [BlkR p 184 #[.slice (some ⟨bb, off, none⟩) n cap], LisR 177 4 (.slice (some ⟨bb, off, none⟩) n cap) n (grid n 4 (bv st bp))] ++ (List.range n).map (fun i => BR (bp i) (st i).bs)
def PoolR (p n : Nat) (st : Nat → Buf) : Res := fun w S => ∃ bb off cap bp, Star (PoolL p bb off cap bp n st) w S
theorem PoolR.ok (p n : Nat) (st : Nat → Buf) : Ok (PoolR p n st) :=
  ⟨fun ⟨bb, off, cap, bp, h⟩ b hb => (Star.ok _).lt h b hb, fun ⟨bb, off, cap, bp, h⟩ hk => ⟨bb, off, cap, bp, (Star.ok _).frame h hk⟩⟩
section
variable {w0 w : World} {S0 : Nat → Prop} {N : List Res} {p bb off cap n : Nat} {bp : Nat → Nat} {st : Nat → Buf}
theorem pool_p (s : St w0 S0 w (PoolL p bb off cap bp n st ++ N)) : w.cell? ⟨p, 0, none⟩ = some (.slice (some ⟨bb, off, none⟩) n cap) := (s.blk 0 rfl).one
theorem pool_lis (s : St w0 S0 w (PoolL p bb off cap bp n st ++ N)) : Lis w 177 4 (.slice (some ⟨bb, off, none⟩) n cap) n (grid n 4 (bv st bp)) := s.lis 1 rfl
theorem pool_at (s : St w0 S0 w (PoolL p bb off cap bp n st ++ N)) {i k : Nat} (hi : i < n) (hk : k < 4) : w.cell? ⟨bb, off + i * 4 + k, none⟩ = some (bv st bp i k) := by
  rcases (pool_lis s).reads.2 with h | ⟨g, o, ha, hc⟩
  · omega
  · obtain ⟨rfl, rfl⟩ : bb = g ∧ off = o := by simpa using ha
    rw [Nat.add_assoc]
    exact hc _ _ (grid_at (bv st bp) hi hk)
theorem pool_four (s : St w0 S0 w (PoolL p bb off cap bp n st ++ N)) {i : Nat} (hi : i < n) : w.cell? ⟨bb, off + i * 4, none⟩ = some (.slice (some ⟨bp i, 0, none⟩) (st i).bs.length (st i).bs.length) ∧ w.cell? ⟨bb, off + i * 4 + 1, none⟩ = some (.int .u64 (st i).gen) ∧ w.cell? ⟨bb, off + i * 4 + 2, none⟩ = some (.int .i64 (st i).owner) ∧ w.cell? ⟨bb, off + i * 4 + 3, none⟩ = some (.int .i64 (st i).refs) :=
  ⟨pool_at s hi (k := 0) (by omega), pool_at s hi (k := 1) (by omega), pool_at s hi (k := 2) (by omega), pool_at s hi (k := 3) (by omega)⟩
theorem pool_frozen (s : St w0 S0 w (PoolL p bb off cap bp n st ++ N)) (o : Nat) : w.frozen? ⟨bb, o, none⟩ = false := (pool_lis s).frozen o
theorem pool_idx (hi : n > 0) {i : Nat} (h : i < n) : (PoolL p bb off cap bp n st ++ N)[2 + i]? = some (BR (bp i) (st i).bs) := by
  rw [List.getElem?_append_left (by simp [PoolL]; omega)]
  exact fam_at [_, _] _ h
theorem pool_box (s : St w0 S0 w (PoolL p bb off cap bp n st ++ N)) (j : Nat) {g : Nat} {t : TypeId} {cs : Array Value} (h : N[j]? = some (BlkR g t cs)) : Blk w g t cs :=
  s.blk ((PoolL p bb off cap bp n st).length + j) (by rw [List.getElem?_append_right (by omega), Nat.add_sub_cancel_left]; exact h)
theorem pool_box_set (s : St w0 S0 w (PoolL p bb off cap bp n st ++ N)) (j : Nat) {g : Nat} {t : TypeId} {cs : Array Value} (h : N[j]? = some (BlkR g t cs)) (k : Nat) (u : Value) : St w0 S0 (w.setCell ⟨g, k, none⟩ u) (PoolL p bb off cap bp n st ++ N.set j (BlkR g t (cs.setIfInBounds k u))) := by
  have := s.set_ ((PoolL p bb off cap bp n st).length + j) (by rw [List.getElem?_append_right (by omega), Nat.add_sub_cancel_left]; exact h) k u
  rwa [List.set_append_right _ _ (by omega), Nat.add_sub_cancel_left] at this
/-- A number of a buffer is laid anew. -/
theorem pool_set (s : St w0 S0 w (PoolL p bb off cap bp n st ++ N)) {i k : Nat} (hi : i < n) (hk : k < 4) (u : Value) (st' : Nat → Buf) (hv : ∀ j k', j < n → k' < 4 → upd2 (bv st bp) i k u j k' = bv st' bp j k') (hb : ∀ j, j < n → (st' j).bs = (st j).bs) :
    St w0 S0 (w.setCell ⟨bb, off + i * 4 + k, none⟩ u) (PoolL p bb off cap bp n st' ++ N) := by
  have h := s.lis_set 1 rfl (k := i * 4 + k) (by omega) u
  rw [← Nat.add_assoc, grid_set _ u hi hk, grid_like hv] at h
  have e : (List.range n).map (fun i => BR (bp i) (st i).bs) = (List.range n).map (fun i => BR (bp i) (st' i).bs) := fam_like fun j hj => by rw [hb j hj]
  show St w0 S0 _ ([_, _] ++ (List.range n).map (fun i => BR (bp i) (st' i).bs) ++ N)
  rw [← e]
  exact h
def updB (st : Nat → Buf) (i : Nat) (b : Buf) : Nat → Buf := fun j => if j = i then b else st j
theorem updB_self (st : Nat → Buf) (i : Nat) (b : Buf) : updB st i b i = b := by simp [updB]
theorem updB_ne (st : Nat → Buf) {i j : Nat} (b : Buf) (h : j ≠ i) : updB st i b j = st j := by simp [updB, h]
theorem pool_setg (s : St w0 S0 w (PoolL p bb off cap bp n st ++ N)) {i : Nat} (hi : i < n) (g : Int) :
    St w0 S0 (w.setCell ⟨bb, off + i * 4 + 1, none⟩ (.int .u64 g)) (PoolL p bb off cap bp n (updB st i { st i with gen := g }) ++ N) :=
  pool_set s hi (by omega) _ _ (fun j k hj hk => by
    rcases (show k = 0 ∨ k = 1 ∨ k = 2 ∨ k = 3 by omega) with rfl | rfl | rfl | rfl <;> by_cases e : j = i <;> simp [upd2, bv, updB, e]) (fun j hj => by by_cases e : j = i <;> simp [updB, e])
theorem pool_seto (s : St w0 S0 w (PoolL p bb off cap bp n st ++ N)) {i : Nat} (hi : i < n) (g : Int) :
    St w0 S0 (w.setCell ⟨bb, off + i * 4 + 2, none⟩ (.int .i64 g)) (PoolL p bb off cap bp n (updB st i { st i with owner := g }) ++ N) :=
  pool_set s hi (by omega) _ _ (fun j k hj hk => by
    rcases (show k = 0 ∨ k = 1 ∨ k = 2 ∨ k = 3 by omega) with rfl | rfl | rfl | rfl <;> by_cases e : j = i <;> simp [upd2, bv, updB, e]) (fun j hj => by by_cases e : j = i <;> simp [updB, e])
theorem pool_setr (s : St w0 S0 w (PoolL p bb off cap bp n st ++ N)) {i : Nat} (hi : i < n) (g : Int) :
    St w0 S0 (w.setCell ⟨bb, off + i * 4 + 3, none⟩ (.int .i64 g)) (PoolL p bb off cap bp n (updB st i { st i with refs := g }) ++ N) :=
  pool_set s hi (by omega) _ _ (fun j k hj hk => by
    rcases (show k = 0 ∨ k = 1 ∨ k = 2 ∨ k = 3 by omega) with rfl | rfl | rfl | rfl <;> by_cases e : j = i <;> simp [upd2, bv, updB, e]) (fun j hj => by by_cases e : j = i <;> simp [updB, e])
/-- A buffer's bytes are laid anew. -/
theorem pool_bytes (s : St w0 S0 w (PoolL p bb off cap bp n st ++ N)) {i : Nat} (hi : i < n) {w' : World} (xs : List Int) (hl : xs.length = (st i).bs.length)
    (ht : ∀ T, BR (bp i) (st i).bs w T → BR (bp i) xs w' T ∧ Did T T w w') : St w0 S0 w' (PoolL p bb off cap bp n (updB st i { st i with bs := xs }) ++ N) := by
  have h := s.turn (pool_idx (by omega) hi) (R' := BR (bp i) xs) (LisR.ok _ _ _ _ _) fun T hT => ⟨T, ht T hT⟩
  have e1 : (PoolL p bb off cap bp n st ++ N).set (2 + i) (BR (bp i) xs) = PoolL p bb off cap bp n (updB st i { st i with bs := xs }) ++ N := by
    rw [List.set_append_left _ _ (by simp [PoolL]; omega)]
    congr 1
    have := fam_set [BlkR p 184 #[.slice (some ⟨bb, off, none⟩) n cap], LisR 177 4 (.slice (some ⟨bb, off, none⟩) n cap) n (grid n 4 (bv st bp))] (fun i => BR (bp i) (st i).bs) (BR (bp i) xs) hi
    refine this.trans ?_
    have g1 : grid n 4 (bv st bp) = grid n 4 (bv (updB st i { st i with bs := xs }) bp) := grid_like fun j k hj hk => by
      rcases (show k = 0 ∨ k = 1 ∨ k = 2 ∨ k = 3 by omega) with rfl | rfl | rfl | rfl <;> by_cases e : j = i <;> simp [bv, updB, e, hl]
    rw [g1]
    congr 1
    refine fam_like fun j hj => ?_
    by_cases e : j = i
    · subst e; simp [updB]
    · simp [updB, e]
  rw [← e1]
  exact h
end
end
section
set_option linter.unusedVariables false
set_option maxRecDepth 100000
set_option maxHeartbeats 800000
/-- Is a handle one of a buffer that isn't free? -/
def live (n : Nat) (st : Nat → Buf) (s g : Int) : Prop := (0 ≤ s ∧ s < n) ∧ (st s.toNat).owner ≠ 0 ∧ (st s.toNat).gen = g
instance (n : Nat) (st : Nat → Buf) (s g : Int) : Decidable (live n st s g) := by unfold live; infer_instance
theorem live_at {n : Nat} {st : Nat → Buf} {s g : Int} (h : live n st s g) : ∃ i : Nat, i < n ∧ s = (i : Int) ∧ (st i).owner ≠ 0 ∧ (st i).gen = g := by
  obtain ⟨⟨h1, h2⟩, h3, h4⟩ := h
  exact ⟨s.toNat, by omega, by omega, h3, h4⟩
section
variable {w0 w : World} {S0 : Nat → Prop} {N : List Res} {p bb off cap n : Nat} {bp : Nat → Nat} {st : Nat → Buf}
theorem with_stale (s : St w0 S0 w (PoolL p bb off cap bp n st ++ N)) (hn : n ≤ 800) (x g : Int) (h : ¬ live n st x g) (f : Value) :
    Calls Tryz.prog 82 #[.pointer (some ⟨p, 0, none⟩), .agg #[.int .i64 x, .int .u64 g], f] w fun e w' => e = .returned (.int .i64 3) ∧ Below w.heap.size w w' := by
  have c0 := pool_p s
  have s1 := s.box 39 #[.int .i64 x, .int .u64 g]
  rw [List.append_assoc] at s1
  have c1 := pool_p s1
  obtain ⟨hb0, hb1⟩ := (Blk.new w 39 #[.int .i64 x, .int .u64 g]).two
  by_cases h0 : 0 ≤ x
  · have d0 : decide (x < 0) = false := decide_eq_false (by omega)
    by_cases h1 : x < n
    · have d1 : decide ((n : Int) ≤ x) = false := decide_eq_false (by omega)
      obtain ⟨i, rfl⟩ := Int.eq_ofNat_of_zero_le h0
      have hi : i < n := by omega
      obtain ⟨e0, e1, e2, e3⟩ := pool_four s1 hi
      have i0 : (0 : Int) ≤ (i : Int) := by omega
      by_cases h2 : (st i).owner = 0
      · rw [h2] at e2
        have S1 := Lib.hid s1
        clear s1 s h c0 e3 e0
        go_enter Tryz.func82, Tryz.ntmps82
        go_wp2_with fail
        go_quiet (fail)
        go_wp2_with fail
        go_quiet (fail)
        go_wp2_with fail
        go_quiet (fail)
        go_wp2_with fail
        go_ret
        exact ⟨rfl, by simpa using below_drewN ((Below.refl w.heap.size w).alloc (Nat.le_refl _) _) _⟩
      · have h3 : (st i).gen ≠ g := fun e => h ⟨⟨h0, h1⟩, h2, e⟩
        have z2 : ((st i).owner == 0) = false := beq_eq_false_iff_ne.2 h2
        have z3 : ((st i).gen != g) = true := by simp [bne, h3]
        generalize (st i).owner = ow at *
        generalize (st i).gen = ge at *
        have S1 := Lib.hid s1
        clear s1 s h c0 e3 e0 h2 h3
        go_enter Tryz.func82, Tryz.ntmps82
        go_wp2_with fail
        go_quiet (fail)
        go_wp2_with fail
        go_quiet (fail)
        go_wp2_with fail
        go_quiet (fail)
        go_wp2_with fail
        go_ret
        exact ⟨rfl, by simpa using below_drewN ((Below.refl w.heap.size w).alloc (Nat.le_refl _) _) _⟩
    · have d1 : decide ((n : Int) ≤ x) = true := decide_eq_true (by omega)
      clear s1 s h c0
      go_enter Tryz.func82, Tryz.ntmps82
      go_wp2_with fail
      go_quiet (fail)
      go_wp2_with fail
      go_ret
      exact ⟨rfl, by simpa using below_drewN ((Below.refl w.heap.size w).alloc (Nat.le_refl _) _) _⟩
  · have d0 : decide (x < 0) = true := decide_eq_true (by omega)
    clear s1 s h c0 c1
    go_enter Tryz.func82, Tryz.ntmps82
    go_wp2_with fail
    go_quiet (fail)
    go_wp2_with fail
    go_ret
    exact ⟨rfl, by simpa using below_drewN ((Below.refl w.heap.size w).alloc (Nat.le_refl _) _) _⟩
theorem with_live (s : St w0 S0 w (PoolL p bb off cap bp n st ++ N)) (hn : n ≤ 800) {i : Nat} (hi : i < n) (ho : (st i).owner ≠ 0) {k : Nat} {caps : Array Value} {Q : Int → World → Prop} (hk : ∀ (xs : Array Value) (W : World), (callFunc k xs).run Tryz.prog W = .ok (.enter k xs) W)
    (HC : ∀ W hb, Below w.heap.size w W → St w0 S0 W (PoolL p bb off cap bp n st ++ (N ++ [BlkR hb 39 #[.int .i64 i, .int .u64 (st i).gen]])) → Calls Tryz.prog k (#[.pointer (some ⟨bb, off + i * 4, none⟩)] ++ caps) W fun e w' => ∃ c, e = .returned (.int .i64 c) ∧ Q c w') :
    Calls Tryz.prog 82 #[.pointer (some ⟨p, 0, none⟩), .agg #[.int .i64 i, .int .u64 (st i).gen], .func (Fn.func k) #[] caps] w fun e w' => ∃ c, e = .returned (.int .i64 c) ∧ Q c w' := by
  have s1 := s.box 39 #[.int .i64 i, .int .u64 (st i).gen]
  rw [List.append_assoc] at s1
  have c1 := pool_p s1
  obtain ⟨hb0, hb1⟩ := (Blk.new w 39 #[.int .i64 i, .int .u64 (st i).gen]).two
  have d0 : decide ((i : Int) < 0) = false := decide_eq_false (by omega)
  have d1 : decide ((n : Int) ≤ (i : Int)) = false := decide_eq_false (by omega)
  obtain ⟨e0, e1, e2, e3⟩ := pool_four s1 hi
  have i0 : (0 : Int) ≤ (i : Int) := by omega
  have i1 : (i : Int) < (n : Int) := by omega
  have z2 : ((st i).owner == 0) = false := beq_eq_false_iff_ne.2 ho
  have z3 : ((st i).gen != (st i).gen) = false := by simp [bne]
  have S1 := Lib.hid s1
  have H := Lib.hid HC
  clear s1 s HC e0 e3
  generalize (st i).owner = ow at *
  generalize hge : (st i).gen = ge at *
  clear ho hge
  go_enter Tryz.func82, Tryz.ntmps82
  go_wp2_with fail
  go_quiet (fail)
  go_wp2_with fail
  go_quiet (fail)
  go_wp2_with fail
  go_quiet (fail)
  go_wp2_with fail
  refine (H.out _ _ (below_drewN ((Below.refl _ _).alloc (Nat.le_refl _) _) _) (S1.out.drewN _)).mono ?_
  rintro e w' ⟨c, rfl, hq⟩
  go_wp2_with fail
  go_ret
  exact ⟨c, rfl, hq⟩
end
end
section
set_option linter.unusedVariables false
set_option maxRecDepth 100000
set_option maxHeartbeats 800000
section
variable {w0 w : World} {S S0 : Nat → Prop} {N : List Res} {p bb off cap n : Nat} {bp : Nat → Nat} {st : Nat → Buf}
theorem pool_end {w' : World} (s : St w S w' (PoolL p bb off cap bp n st ++ N)) : ∃ S', PoolR p n st w' S' ∧ Did S S' w w' := by
  have h := s.take (PoolL p bb off cap bp n st).length
  rw [List.take_left] at h
  exact h.fin fun S' h => ⟨bb, off, cap, bp, h⟩
theorem pool_begin {w : World} {S : Nat → Prop} (h : PoolR p n st w S) : ∃ bb off cap bp, St w S w (PoolL p bb off cap bp n st ++ []) := by
  obtain ⟨bb, off, cap, bp, hs⟩ := h
  exact ⟨bb, off, cap, bp, by rw [List.append_nil]; exact St.start hs⟩
/-- What a Share answers, and what is there then. -/
def ShareB (b : Buf) (c : Int) (b' : Buf) : Prop := (b.owner ≠ 1 ∧ c = 8 ∧ b' = b) ∨ (b.owner = 1 ∧ b.refs = 100 ∧ c = 4 ∧ b' = b) ∨ (b.owner = 1 ∧ b.refs ≠ 100 ∧ c = 0 ∧ b' = { b with refs := b.refs + 1 })
theorem share_b (b : Buf) : ∃ c b', ShareB b c b' := by
  by_cases h : b.owner = 1
  · by_cases h2 : b.refs = 100
    · exact ⟨_, _, Or.inr (Or.inl ⟨h, h2, rfl, rfl⟩)⟩
    · exact ⟨_, _, Or.inr (Or.inr ⟨h, h2, rfl, rfl⟩)⟩
  · exact ⟨_, _, Or.inl ⟨h, rfl, rfl⟩⟩
def DropB (b : Buf) (c : Int) (b' : Buf) : Prop := (b.owner ≠ 1 ∧ c = 8 ∧ b' = b) ∨ (b.owner = 1 ∧ b.refs ≠ 1 ∧ c = 0 ∧ b' = { b with refs := b.refs - 1 }) ∨ (b.owner = 1 ∧ b.refs = 1 ∧ c = 0 ∧ b' = { b with refs := 0, owner := 0, gen := b.gen + 1 })
theorem drop_b (b : Buf) : ∃ c b', DropB b c b' := by
  by_cases h : b.owner = 1
  · by_cases h2 : b.refs = 1
    · exact ⟨_, _, Or.inr (Or.inr ⟨h, h2, rfl, rfl⟩)⟩
    · exact ⟨_, _, Or.inr (Or.inl ⟨h, h2, rfl, rfl⟩)⟩
  · exact ⟨_, _, Or.inl ⟨h, rfl, rfl⟩⟩
theorem updB_id (st : Nat → Buf) (i : Nat) : updB st i (st i) = st := by
  funext j
  by_cases e : j = i
  · rw [e, updB_self]
  · rw [updB_ne _ _ e]
theorem updB_two (st : Nat → Buf) (i : Nat) (a b : Buf) : updB (updB st i a) i b = updB st i b := by
  funext j
  by_cases e : j = i
  · rw [e, updB_self, updB_self]
  · rw [updB_ne _ _ e, updB_ne _ _ e, updB_ne _ _ e]
end
end
section
set_option linter.unusedVariables false
set_option maxRecDepth 100000
set_option maxHeartbeats 800000
/-- By a handle: stale, or what is done with its buffer. -/
def Via (n : Nat) (st : Nat → Buf) (x g : Int) (B : Buf → Int → Buf → Prop) (c : Int) (st' : Nat → Buf) : Prop :=
  (¬ live n st x g ∧ c = 3 ∧ st' = st) ∨ ∃ (i : Nat) (b' : Buf), i < n ∧ x = (i : Int) ∧ (st i).owner ≠ 0 ∧ (st i).gen = g ∧ B (st i) c b' ∧ st' = updB st i b'
theorem via_ex {n : Nat} {st : Nat → Buf} {x g : Int} {B : Buf → Int → Buf → Prop} (h : ∀ b, ∃ c b', B b c b') : ∃ c st', Via n st x g B c st' := by
  by_cases hl : live n st x g
  · obtain ⟨i, h1, h2, h3, h4⟩ := live_at hl
    obtain ⟨c, b', hb⟩ := h (st i)
    exact ⟨c, _, Or.inr ⟨i, b', h1, h2, h3, h4, hb, rfl⟩⟩
  · exact ⟨3, st, Or.inl ⟨hl, rfl, rfl⟩⟩
def who (x : Int) : Prop := 1 ≤ x ∧ x ≤ 3
instance (x : Int) : Decidable (who x) := by unfold who; infer_instance
def GiveB (a z : Int) (b : Buf) (c : Int) (b' : Buf) : Prop :=
  (¬ (who a ∧ who z ∧ a ≠ z) ∧ c = 1 ∧ b' = b) ∨ ((who a ∧ who z ∧ a ≠ z) ∧ b.owner ≠ a ∧ c = 8 ∧ b' = b) ∨ ((who a ∧ who z ∧ a ≠ z) ∧ b.owner = a ∧ c = 0 ∧ b' = { b with owner := z })
theorem give_b (a z : Int) (b : Buf) : ∃ c b', GiveB a z b c b' := by
  by_cases h : who a ∧ who z ∧ a ≠ z
  · by_cases h2 : b.owner = a
    · exact ⟨_, _, Or.inr (Or.inr ⟨h, h2, rfl, rfl⟩)⟩
    · exact ⟨_, _, Or.inr (Or.inl ⟨h, h2, rfl, rfl⟩)⟩
  · exact ⟨_, _, Or.inl ⟨h, rfl, rfl⟩⟩
theorem owns_yes (x : Int) (w : World) (h : who x) : Calls Tryz.prog 109 #[.int .i64 x] w fun e w' => e = .returned (.bool true) ∧ w = w' := by
  obtain ⟨h1, h2⟩ := h
  rcases (show x = 1 ∨ x = 2 ∨ x = 3 by omega) with rfl | rfl | rfl
  all_goals
    go_enter Tryz.func109, Tryz.ntmps109
    go_wp2
    go_ret
    exact ⟨rfl, rfl⟩
theorem owns_no (x : Int) (w : World) (h : ¬ who x) : Calls Tryz.prog 109 #[.int .i64 x] w fun e w' => e = .returned (.bool false) ∧ w = w' := by
  unfold who at h
  have z1 : (x == 1) = false := beq_eq_false_iff_ne.2 (by omega)
  have z2 : (x == 2) = false := beq_eq_false_iff_ne.2 (by omega)
  have z3 : (x == 3) = false := beq_eq_false_iff_ne.2 (by omega)
  go_enter Tryz.func109, Tryz.ntmps109
  go_wp2
  go_ret
  exact ⟨rfl, rfl⟩
theorem enter_give (xs : Array Value) (W : World) : (callFunc 108 xs).run Tryz.prog W = .ok (.enter 108 xs) W := by go_simp
theorem enter_owner (xs : Array Value) (W : World) : (callFunc 98 xs).run Tryz.prog W = .ok (.enter 98 xs) W := by go_simp
theorem enter_size (xs : Array Value) (W : World) : (callFunc 181 xs).run Tryz.prog W = .ok (.enter 181 xs) W := by go_simp
section
variable {w0 w : World} {S S0 : Nat → Prop} {N : List Res} {p bb off cap n : Nat} {bp : Nat → Nat} {st : Nat → Buf} {G : Int}
theorem POK.refs (ok : POK n st G) {i : Nat} (hi : i < n) : 0 ≤ (st i).refs ∧ (st i).refs ≤ 100 := (ok.b i hi).2.2.1
theorem POK.gen (ok : POK n st G) {i : Nat} (hi : i < n) : 0 ≤ (st i).gen ∧ (st i).gen < 9223372036854775807 := ⟨(ok.b i hi).1.1, by have := (ok.b i hi).1.2; have := ok.g; omega⟩
theorem give1_c {W : World} (s : St w0 S0 W (PoolL p bb off cap bp n st ++ N)) {i : Nat} (hi : i < n) {a z c : Int} {b' : Buf} (h : GiveB a z (st i) c b') {f t : Nat} (c1 : W.cell? ⟨f, 0, none⟩ = some (.int .i64 a)) (c2 : W.cell? ⟨t, 0, none⟩ = some (.int .i64 z)) :
    Calls Tryz.prog 108 #[.pointer (some ⟨bb, off + i * 4, none⟩), .pointer (some ⟨f, 0, none⟩), .pointer (some ⟨t, 0, none⟩)] W fun e w' => e = .returned (.int .i64 c) ∧ St w0 S0 w' (PoolL p bb off cap bp n (updB st i b') ++ N) := by
  obtain ⟨e0, e1, e2, e3⟩ := pool_four s hi
  have f2 := pool_frozen s (off + i * 4 + 2)
  have f2' := pool_frozen s.drew (off + i * 4 + 2)
  have SO := Lib.hid (fun q => pool_seto (s.drewN q) hi z)
  have SS := Lib.hid s
  clear s e0 e1 e3
  rcases h with ⟨h1, rfl, rfl⟩ | ⟨⟨ha, hz, hne⟩, h2, rfl, rfl⟩ | ⟨⟨ha, hz, hne⟩, h2, rfl, rfl⟩
  · rw [updB_id]
    by_cases ha : who a
    · by_cases hz : who z
      · obtain rfl : a = z := by
          by_cases e : a = z
          · exact e
          · exact absurd ⟨ha, hz, e⟩ h1
        clear h1
        go_enter Tryz.func108, Tryz.ntmps108
        go_wp2_with (go_at_call 109; refine (owns_yes _ _ ha).mono ?_; rintro e w1 ⟨rfl, rfl⟩)
        go_ret
        exact ⟨rfl, SS.out⟩
      · clear h1
        go_enter Tryz.func108, Tryz.ntmps108
        go_wp2_with (first | (go_at_call_of 109 a; refine (owns_yes a _ ha).mono ?_; rintro e w1 ⟨rfl, rfl⟩) | (go_at_call_of 109 z; refine (owns_no z _ hz).mono ?_; rintro e w1 ⟨rfl, rfl⟩))
        go_ret
        exact ⟨rfl, SS.out⟩
    · clear h1
      go_enter Tryz.func108, Tryz.ntmps108
      go_wp2_with (go_at_call 109; refine (owns_no a _ ha).mono ?_; rintro e w1 ⟨rfl, rfl⟩)
      go_ret
      exact ⟨rfl, SS.out⟩
  · rw [updB_id]
    have z1 : (a == z) = false := beq_eq_false_iff_ne.2 hne
    have z2 : ((st i).owner != a) = true := by simp [bne, h2]
    generalize (st i).owner = ow at *
    clear h2 hne
    go_enter Tryz.func108, Tryz.ntmps108
    go_wp2_with (first | (go_at_call_of 109 a; refine (owns_yes a _ ha).mono ?_; rintro e w1 ⟨rfl, rfl⟩) | (go_at_call_of 109 z; refine (owns_yes z _ hz).mono ?_; rintro e w1 ⟨rfl, rfl⟩))
    go_quiet (fail)
    go_wp2_with fail
    go_ret
    exact ⟨rfl, SS.out.drewN _⟩
  · have z1 : (a == z) = false := beq_eq_false_iff_ne.2 hne
    rw [h2] at e2
    have z2 : (a != a) = false := by simp [bne]
    clear h2 hne
    go_enter Tryz.func108, Tryz.ntmps108
    go_wp2_with (first | (go_at_call_of 109 a; refine (owns_yes a _ ha).mono ?_; rintro e w1 ⟨rfl, rfl⟩) | (go_at_call_of 109 z; refine (owns_yes z _ hz).mono ?_; rintro e w1 ⟨rfl, rfl⟩))
    go_quiet (fail)
    go_wp2_with fail
    go_ret
    exact ⟨rfl, SO.out _⟩
end
end
section
set_option linter.unusedVariables false
set_option maxRecDepth 100000
set_option maxHeartbeats 800000
section
variable {w0 w : World} {S S0 : Nat → Prop} {N : List Res} {p bb off cap n : Nat} {bp : Nat → Nat} {st : Nat → Buf} {G : Int}
theorem pool_boxes3 (s : St w0 S0 w (PoolL p bb off cap bp n st ++ [])) (t1 t2 t3 : TypeId) (c1 c2 c3 : Array Value) :
    St w0 S0 (((w.alloc (.cells c1 t1)).alloc (.cells c2 t2)).alloc (.cells c3 t3)) (PoolL p bb off cap bp n st ++ [BlkR w.heap.size t1 c1, BlkR (w.heap.size + 1) t2 c2, BlkR (w.heap.size + 2) t3 c3]) := by
  have h := s.box3 t1 t2 t3 c1 c2 c3
  rw [List.append_assoc, List.append_assoc, List.append_assoc] at h
  exact h
theorem pool_boxes2 (s : St w0 S0 w (PoolL p bb off cap bp n st ++ [])) (t1 t2 : TypeId) (c1 c2 : Array Value) :
    St w0 S0 ((w.alloc (.cells c1 t1)).alloc (.cells c2 t2)) (PoolL p bb off cap bp n st ++ [BlkR w.heap.size t1 c1, BlkR (w.heap.size + 1) t2 c2]) := by
  have h := s.box2 t1 t2 c1 c2
  rw [List.append_assoc, List.append_assoc] at h
  exact h
theorem give_c (ok : POK n st G) {x g a z c : Int} {st' : Nat → Buf} (h : Via n st x g (GiveB a z) c st') : ∀ w S, PoolR p n st w S →
    Calls Tryz.prog 49 #[.pointer (some ⟨p, 0, none⟩), .agg #[.int .i64 x, .int .u64 g], .int .i64 a, .int .i64 z] w fun e w' => e = .returned (.int .i64 c) ∧ ∃ S', PoolR p n st' w' S' ∧ Did S S' w w' := by
  intro w S hp
  obtain ⟨bb, off, cap, bp, s⟩ := pool_begin hp
  have s1 := pool_boxes3 s 39 3 3 #[.int .i64 x, .int .u64 g] #[.int .i64 a] #[.int .i64 z]
  rcases h with ⟨h, rfl, rfl⟩ | ⟨i, b', hi, rfl, ho, rfl, hb, rfl⟩
  · have W1 := Lib.hid (fun f => with_stale s1 ok.n2 x g h f)
    have S1 := Lib.hid s1
    clear s1 s h
    go_enter Tryz.func49, Tryz.ntmps49
    go_wp2_with fail
    refine (W1.out _).mono ?_
    rintro e w2 ⟨rfl, hb⟩
    go_wp2_with fail
    go_ret
    exact ⟨rfl, pool_end (S1.out.stay hb)⟩
  · have W1 := Lib.hid (with_live (Q := fun c' w' => c' = c ∧ ∃ N', St w S w' (PoolL p bb off cap bp n (updB st i b') ++ N')) (caps := #[.pointer (some ⟨w.heap.size + 1, 0, none⟩), .pointer (some ⟨w.heap.size + 1 + 1, 0, none⟩)]) s1 ok.n2 hi ho enter_give (fun W hh _ sW => (give1_c sW hi hb (pool_box sW 1 rfl).one (pool_box sW 2 rfl).one).mono fun e w' h => ⟨c, h.1, rfl, _, h.2⟩))
    clear s1 s hb ho
    go_enter Tryz.func49, Tryz.ntmps49
    go_wp2_with fail
    refine W1.out.mono ?_
    rintro e w2 ⟨c', rfl, rfl, N', s2⟩
    go_wp2_with fail
    go_ret
    exact ⟨rfl, pool_end s2⟩
theorem owner1_c {W : World} {a : Res} {f t : Nat} (s : St w0 S0 W (PoolL p bb off cap bp n st ++ ([a, BlkR f 3 #[.int .i64 0], BlkR t 3 #[.int .i64 0]] ++ N))) {i : Nat} (hi : i < n) :
    Calls Tryz.prog 98 #[.pointer (some ⟨bb, off + i * 4, none⟩), .pointer (some ⟨f, 0, none⟩), .pointer (some ⟨t, 0, none⟩)] W fun e w' => e = .returned (.int .i64 0) ∧ St w0 S0 w' (PoolL p bb off cap bp n st ++ ([a, BlkR f 3 #[.int .i64 (st i).owner], BlkR t 3 #[.int .i64 (st i).refs]] ++ N)) := by
  obtain ⟨e0, e1, e2, e3⟩ := pool_four s hi
  have c1 := (pool_box s 1 rfl).one
  have c2 := (pool_box s 2 rfl).one
  have sa := pool_box_set s 1 rfl 0 (.int .i64 (st i).owner)
  have sb := pool_box_set s 2 rfl 0 (.int .i64 (st i).refs)
  have f1 := (pool_box s 1 rfl).frozen 0
  have f2 := (pool_box s 2 rfl).frozen 0
  have SA := Lib.hid (pool_box_set sa 2 rfl 0 (.int .i64 (st i).refs))
  have g2 := (pool_box sa 2 rfl).one
  have k2 := (pool_box sa 2 rfl).frozen 0
  have g1 := (pool_box sb 1 rfl).one
  have k1 := (pool_box sb 1 rfl).frozen 0
  have SB := Lib.hid (pool_box_set sb 1 rfl 0 (.int .i64 (st i).owner))
  clear e0 e1 s sa sb
  generalize (st i).owner = ow at *
  generalize (st i).refs = rf at *
  go_enter Tryz.func98, Tryz.ntmps98
  go_wp2_with fail
  go_region
  all_goals
    go_wp2_with fail
    go_ret
    first
      | exact ⟨rfl, SA.out.drew⟩
      | exact ⟨rfl, SB.out.drew⟩
theorem size1_c {W : World} {a : Res} {f : Nat} (s : St w0 S0 W (PoolL p bb off cap bp n st ++ ([a, BlkR f 3 #[.int .i64 0]] ++ N))) {i : Nat} (hi : i < n) :
    Calls Tryz.prog 181 #[.pointer (some ⟨bb, off + i * 4, none⟩), .pointer (some ⟨f, 0, none⟩)] W fun e w' => e = .returned (.int .i64 0) ∧ St w0 S0 w' (PoolL p bb off cap bp n st ++ ([a, BlkR f 3 #[.int .i64 ((st i).bs.length : Nat)]] ++ N)) := by
  obtain ⟨e0, e1, e2, e3⟩ := pool_four s hi
  have c1 := (pool_box s 1 rfl).one
  have f1 := (pool_box s 1 rfl).frozen 0
  have SA := Lib.hid (pool_box_set s 1 rfl 0 (.int .i64 ((st i).bs.length : Nat)))
  clear e1 e2 e3 s
  generalize (st i).bs.length = ow at *
  go_enter Tryz.func181, Tryz.ntmps181
  go_wp2_with fail
  go_ret
  exact ⟨rfl, SA.out⟩
/-- Of a buffer's handle: whose, how often. -/
def OwnerP (n : Nat) (st : Nat → Buf) (x g o r c : Int) : Prop := (¬ live n st x g ∧ o = 0 ∧ r = 0 ∧ c = 3) ∨ ∃ i : Nat, i < n ∧ x = (i : Int) ∧ (st i).owner ≠ 0 ∧ (st i).gen = g ∧ o = (st i).owner ∧ r = (st i).refs ∧ c = 0
def SizeP (n : Nat) (st : Nat → Buf) (x g z c : Int) : Prop := (¬ live n st x g ∧ z = 0 ∧ c = 3) ∨ ∃ i : Nat, i < n ∧ x = (i : Int) ∧ (st i).owner ≠ 0 ∧ (st i).gen = g ∧ z = ((st i).bs.length : Nat) ∧ c = 0
theorem owner_ex (n : Nat) (st : Nat → Buf) (x g : Int) : ∃ o r c, OwnerP n st x g o r c := by
  by_cases hl : live n st x g
  · obtain ⟨i, h1, h2, h3, h4⟩ := live_at hl
    exact ⟨_, _, _, Or.inr ⟨i, h1, h2, h3, h4, rfl, rfl, rfl⟩⟩
  · exact ⟨_, _, _, Or.inl ⟨hl, rfl, rfl, rfl⟩⟩
theorem size_ex (n : Nat) (st : Nat → Buf) (x g : Int) : ∃ z c, SizeP n st x g z c := by
  by_cases hl : live n st x g
  · obtain ⟨i, h1, h2, h3, h4⟩ := live_at hl
    exact ⟨_, _, Or.inr ⟨i, h1, h2, h3, h4, rfl, rfl⟩⟩
  · exact ⟨_, _, Or.inl ⟨hl, rfl, rfl⟩⟩
theorem owner_c (ok : POK n st G) {x g o r c : Int} (h : OwnerP n st x g o r c) : ∀ w S, PoolR p n st w S →
    Calls Tryz.prog 42 #[.pointer (some ⟨p, 0, none⟩), .agg #[.int .i64 x, .int .u64 g]] w fun e w' => e = .returned (.tuple #[.int .i64 o, .int .i64 r, .int .i64 c]) ∧ ∃ S', PoolR p n st w' S' ∧ Did S S' w w' := by
  intro w S hp
  obtain ⟨bb, off, cap, bp, s⟩ := pool_begin hp
  have s1 := pool_boxes3 s 39 3 3 #[.int .i64 x, .int .u64 g] #[.int .i64 0] #[.int .i64 0]
  rcases h with ⟨h, rfl, rfl, rfl⟩ | ⟨i, hi, rfl, ho, rfl, rfl, rfl, rfl⟩
  · have W1 := Lib.hid (fun f => with_stale s1 ok.n2 x g h f)
    have S1 := Lib.hid s1
    clear s1 s h
    go_enter Tryz.func42, Tryz.ntmps42
    go_wp2_with fail
    refine (W1.out _).mono ?_
    rintro e w2 ⟨rfl, hb⟩
    have s2 := S1.out.stay hb
    have b1 := (pool_box s2 1 rfl).one
    have b2 := (pool_box s2 2 rfl).one
    have S2 := Lib.hid s2
    clear s2 hb
    go_wp2_with fail
    go_quiet (fail)
    go_wp2_with fail
    go_ret3
    exact ⟨rfl, pool_end (S2.out.drewN _)⟩
  · have W1 := Lib.hid (with_live (Q := fun c' w' => c' = 0 ∧ ∃ N', St w S w' (PoolL p bb off cap bp n st ++ ([BlkR w.heap.size 39 #[.int .i64 i, .int .u64 (st i).gen], BlkR (w.heap.size + 1) 3 #[.int .i64 (st i).owner], BlkR (w.heap.size + 2) 3 #[.int .i64 (st i).refs]] ++ N'))) (caps := #[.pointer (some ⟨w.heap.size + 1, 0, none⟩), .pointer (some ⟨w.heap.size + 1 + 1, 0, none⟩)]) s1 ok.n2 hi ho enter_owner (fun W hh _ sW => (owner1_c sW hi).mono fun e w' h => ⟨0, h.1, rfl, _, h.2⟩))
    clear s1 s ho
    go_enter Tryz.func42, Tryz.ntmps42
    go_wp2_with fail
    refine W1.out.mono ?_
    rintro e w2 ⟨c', rfl, rfl, N', s2⟩
    have b1 := (pool_box s2 1 rfl).one
    have b2 := (pool_box s2 2 rfl).one
    have S2 := Lib.hid s2
    clear s2
    go_wp2_with fail
    go_quiet (fail)
    go_wp2_with fail
    go_ret3
    exact ⟨rfl, pool_end (S2.out.drewN _)⟩
theorem size_c (ok : POK n st G) {x g z c : Int} (h : SizeP n st x g z c) : ∀ w S, PoolR p n st w S →
    Calls Tryz.prog 167 #[.pointer (some ⟨p, 0, none⟩), .agg #[.int .i64 x, .int .u64 g]] w fun e w' => e = .returned (.tuple #[.int .i64 z, .int .i64 c]) ∧ ∃ S', PoolR p n st w' S' ∧ Did S S' w w' := by
  intro w S hp
  obtain ⟨bb, off, cap, bp, s⟩ := pool_begin hp
  have s1 := pool_boxes2 s 39 3 #[.int .i64 x, .int .u64 g] #[.int .i64 0]
  rcases h with ⟨h, rfl, rfl⟩ | ⟨i, hi, rfl, ho, rfl, rfl, rfl⟩
  · have W1 := Lib.hid (fun f => with_stale s1 ok.n2 x g h f)
    have S1 := Lib.hid s1
    clear s1 s h
    go_enter Tryz.func167, Tryz.ntmps167
    go_wp2_with fail
    refine (W1.out _).mono ?_
    rintro e w2 ⟨rfl, hb⟩
    have s2 := S1.out.stay hb
    have b1 := (pool_box s2 1 rfl).one
    have S2 := Lib.hid s2
    clear s2 hb
    go_wp2_with fail
    go_ret2
    exact ⟨rfl, pool_end S2.out⟩
  · have W1 := Lib.hid (with_live (Q := fun c' w' => c' = 0 ∧ ∃ N', St w S w' (PoolL p bb off cap bp n st ++ ([BlkR w.heap.size 39 #[.int .i64 i, .int .u64 (st i).gen], BlkR (w.heap.size + 1) 3 #[.int .i64 ((st i).bs.length : Nat)]] ++ N'))) (caps := #[.pointer (some ⟨w.heap.size + 1, 0, none⟩)]) s1 ok.n2 hi ho enter_size (fun W hh _ sW => (size1_c sW hi).mono fun e w' h => ⟨0, h.1, rfl, _, h.2⟩))
    clear s1 s ho
    go_enter Tryz.func167, Tryz.ntmps167
    go_wp2_with fail
    refine W1.out.mono ?_
    rintro e w2 ⟨c', rfl, rfl, N', s2⟩
    have b1 := (pool_box s2 1 rfl).one
    have S2 := Lib.hid s2
    clear s2
    go_wp2_with fail
    go_ret2
    exact ⟨rfl, pool_end S2.out⟩
end
end
section
set_option linter.unusedVariables false
set_option maxRecDepth 100000
set_option maxHeartbeats 800000
theorem rds_below {w w' : World} {A : Option Addr} {m size : Nat} {xs : List Value} (h : Rds w A m size xs) (hb : Below w.heap.size w w') : Rds w' A m size xs := by
  refine ⟨h.1, ?_⟩
  rcases h.2 with h0 | ⟨g, off, rfl, hc⟩
  · exact Or.inl h0
  · refine Or.inr ⟨g, off, rfl, fun j u hu => ?_⟩
    have h1 := hc j u hu
    have hlt : g < w.heap.size := by
      rcases Nat.lt_or_ge g w.heap.size with h | h
      · exact h
      · simp [World.cell?, Array.getElem?_eq_none h] at h1
    exact (hb.cell (p := ⟨g, off + j, none⟩) hlt).trans h1
def fits (l : Nat) (at' n : Int) : Prop := 0 ≤ at' ∧ at' ≤ l ∧ 0 ≤ n ∧ n ≤ l - at'
instance (l : Nat) (a n : Int) : Decidable (fits l a n) := by unfold fits; infer_instance
section
variable {w0 w : World} {S S0 : Nat → Prop} {N : List Res} {p bb off cap n : Nat} {bp : Nat → Nat} {st : Nat → Buf} {G : Int}
theorem fits_yes {q : Addr} {l : Nat} {v : Option Addr} (hl : l ≤ 65536) (at' m : Int) (e0 : w.cell? ⟨q.block, q.off, none⟩ = some (.slice v l l)) (h : fits l at' m) :
    Calls Tryz.prog 84 #[.pointer (some ⟨q.block, q.off, none⟩), .int .i64 at', .int .i64 m] w fun e w' => e = .returned (.bool true) ∧ w = w' := by
  obtain ⟨h1, h2, h3, h4⟩ := h
  have d1 : decide (0 ≤ at') = true := decide_eq_true h1
  have d2 : decide (at' ≤ (l : Int)) = true := decide_eq_true h2
  have d3 : decide (0 ≤ m) = true := decide_eq_true h3
  have d4 : decide (m ≤ (l : Int) - at') = true := decide_eq_true h4
  go_enter Tryz.func84, Tryz.ntmps84
  go_wp2
  go_ret
  exact ⟨rfl, rfl⟩
theorem fits_no {q : Addr} {l : Nat} {v : Option Addr} (hl : l ≤ 65536) (at' m : Int) (e0 : w.cell? ⟨q.block, q.off, none⟩ = some (.slice v l l)) (h : ¬ fits l at' m) :
    Calls Tryz.prog 84 #[.pointer (some ⟨q.block, q.off, none⟩), .int .i64 at', .int .i64 m] w fun e w' => e = .returned (.bool false) ∧ w = w' := by
  by_cases h1 : 0 ≤ at'
  · have d1 : decide (0 ≤ at') = true := decide_eq_true h1
    by_cases h2 : at' ≤ (l : Int)
    · have d2 : decide (at' ≤ (l : Int)) = true := decide_eq_true h2
      by_cases h3 : 0 ≤ m
      · have d3 : decide (0 ≤ m) = true := decide_eq_true h3
        have h4 : ¬ m ≤ (l : Int) - at' := fun h4 => h ⟨h1, h2, h3, h4⟩
        have d4 : decide (m ≤ (l : Int) - at') = false := decide_eq_false h4
        clear h
        go_enter Tryz.func84, Tryz.ntmps84
        go_wp2
        go_ret
        exact ⟨rfl, rfl⟩
      · have d3 : decide (0 ≤ m) = false := decide_eq_false h3
        clear h
        go_enter Tryz.func84, Tryz.ntmps84
        go_wp2
        go_ret
        exact ⟨rfl, rfl⟩
    · have d2 : decide (at' ≤ (l : Int)) = false := decide_eq_false h2
      clear h
      go_enter Tryz.func84, Tryz.ntmps84
      go_wp2
      go_ret
      exact ⟨rfl, rfl⟩
  · have d1 : decide (0 ≤ at') = false := decide_eq_false h1
    clear h
    go_enter Tryz.func84, Tryz.ntmps84
    go_wp2
    go_ret
    exact ⟨rfl, rfl⟩
/-- A buffer's bytes are laid anew, behind a copy. -/
theorem pool_copied {w' : World} (s : St w0 S0 w (PoolL p bb off cap bp n st ++ N)) {i : Nat} (hi : i < n) (xs : List Int) (hl : xs.length = (st i).bs.length) (hlis : Lis w' 5 1 (.slice (some ⟨bp i, 0, none⟩) (st i).bs.length (st i).bs.length) (st i).bs.length (bys xs)) (ho : Only (bp i) w w') :
    St w0 S0 w' (PoolL p bb off cap bp n (updB st i { st i with bs := xs }) ++ N) :=
  pool_bytes s hi xs hl fun T ⟨_, hT⟩ => ⟨⟨by rw [hl]; exact hlis, fun b => by rw [hT b]; simp [Value.ownBlock]⟩, Did.of_only ho ((hT (bp i)).2 (by simp [Value.ownBlock])) fun b hb => Or.inl hb⟩
def WriteB (by' : Int) (at' : Int) (xs : List Int) (b : Buf) (c : Int) (b' : Buf) : Prop :=
  (¬ who by' ∧ c = 1 ∧ b' = b) ∨ (who by' ∧ b.owner ≠ by' ∧ c = 8 ∧ b' = b) ∨ (who by' ∧ b.owner = by' ∧ ¬ fits b.bs.length at' xs.length ∧ c = 1 ∧ b' = b) ∨
    (who by' ∧ b.owner = by' ∧ fits b.bs.length at' xs.length ∧ c = 0 ∧ b' = { b with bs := b.bs.take at'.toNat ++ (xs ++ b.bs.drop (at'.toNat + xs.length)) })
theorem write_b (by' at' : Int) (xs : List Int) (b : Buf) : ∃ c b', WriteB by' at' xs b c b' := by
  by_cases h : who by'
  · by_cases h2 : b.owner = by'
    · by_cases h3 : fits b.bs.length at' xs.length
      · exact ⟨_, _, Or.inr (Or.inr (Or.inr ⟨h, h2, h3, rfl, rfl⟩))⟩
      · exact ⟨_, _, Or.inr (Or.inr (Or.inl ⟨h, h2, h3, rfl, rfl⟩))⟩
    · exact ⟨_, _, Or.inr (Or.inl ⟨h, h2, rfl, rfl⟩)⟩
  · exact ⟨_, _, Or.inl ⟨h, rfl, rfl⟩⟩
theorem enter_write (xs : Array Value) (W : World) : (callFunc 175 xs).run Tryz.prog W = .ok (.enter 175 xs) W := by go_simp
theorem enter_read (xs : Array Value) (W : World) : (callFunc 83 xs).run Tryz.prog W = .ok (.enter 83 xs) W := by go_simp
theorem write1_c {W : World} (s : St w0 S0 W (PoolL p bb off cap bp n st ++ N)) {i : Nat} (hi : i < n) (hl : (st i).bs.length ≤ 65536) {by' at' c : Int} {xs : List Int} {b' : Buf} (h : WriteB by' at' xs (st i) c b') {f t q : Nat} {A : Option Addr} {cp : Nat} (hx : xs.length ≤ maxLen)
    (c1 : W.cell? ⟨f, 0, none⟩ = some (.int .i64 by')) (c2 : W.cell? ⟨t, 0, none⟩ = some (.int .i64 at')) (c3 : W.cell? ⟨q, 0, none⟩ = some (.slice A xs.length cp)) (hr : Rds W A xs.length 1 (bys xs)) :
    Calls Tryz.prog 175 #[.pointer (some ⟨bb, off + i * 4, none⟩), .pointer (some ⟨f, 0, none⟩), .pointer (some ⟨t, 0, none⟩), .pointer (some ⟨q, 0, none⟩)] W fun e w' => e = .returned (.int .i64 c) ∧ St w0 S0 w' (PoolL p bb off cap bp n (updB st i b') ++ N) := by
  unfold maxLen at hx
  obtain ⟨e0, e1, e2, e3⟩ := pool_four s hi
  have SS := Lib.hid s
  clear e1 e3
  rcases h with ⟨h1, rfl, rfl⟩ | ⟨h1, h2, rfl, rfl⟩ | ⟨h1, h2, h3, rfl, rfl⟩ | ⟨h1, h2, h3, rfl, rfl⟩
  · rw [updB_id]
    clear s
    go_enter Tryz.func175, Tryz.ntmps175
    go_wp2_with fail
    refine (owns_no _ _ h1).mono ?_
    rintro e w1 ⟨rfl, rfl⟩
    go_wp2_with fail
    go_ret
    exact ⟨rfl, SS.out⟩
  · have z1 : ((st i).owner != by') = true := by simp [bne, h2]
    rw [updB_id]
    clear s
    generalize (st i).owner = ow at *
    clear h2
    go_enter Tryz.func175, Tryz.ntmps175
    go_wp2_with fail
    refine (owns_yes _ _ h1).mono ?_
    rintro e w1 ⟨rfl, rfl⟩
    go_wp2_with fail
    go_quiet (fail)
    go_wp2_with fail
    go_ret
    exact ⟨rfl, SS.out.drewN _⟩
  · have z1 : (by' != by') = false := by simp [bne]
    rw [updB_id]
    rw [h2] at e2
    have FN := Lib.hid (fun j => fits_no (w := W.drewN j) (q := ⟨bb, off + i * 4, none⟩) (v := some ⟨bp i, 0, none⟩) hl at' xs.length e0 h3)
    clear s h2 h3
    go_enter Tryz.func175, Tryz.ntmps175
    go_wp2_with fail
    refine (owns_yes _ _ h1).mono ?_
    rintro e w1 ⟨rfl, rfl⟩
    go_wp2_with fail
    go_quiet (fail)
    go_wp2_with fail
    refine (FN.out _).mono ?_
    rintro e w1 ⟨rfl, rfl⟩
    go_wp2_with fail
    go_ret
    exact ⟨rfl, SS.out.drewN _⟩
  · have z1 : (by' != by') = false := by simp [bne]
    have FY := Lib.hid (fun j => fits_yes (w := W.drewN j) (q := ⟨bb, off + i * 4, none⟩) (v := some ⟨bp i, 0, none⟩) hl at' xs.length e0 h3)
    obtain ⟨f1, f2, f3, f4⟩ := h3
    obtain ⟨k, rfl⟩ := Int.eq_ofNat_of_zero_le f1
    have hk : k ≤ (st i).bs.length := by omega
    have hkx : k + xs.length ≤ (st i).bs.length := by omega
    have hmin : min xs.length ((st i).bs.length - k) = xs.length := by omega
    have hL := Lib.hid (fun j => (s.drewN j).lis _ (pool_idx (by omega) hi))
    have hR := Lib.hid (fun j => (show Rds (W.drewN j) A xs.length 1 (bys xs) from rds_below hr (below_drewN (Below.refl _ _) j)))
    have KK := Lib.hid (fun j w' (hl2 : Lis w' 5 1 (.slice (some ⟨bp i, 0, none⟩) (st i).bs.length (st i).bs.length) (st i).bs.length ((bys (st i).bs).take k ++ (bys xs).take (min xs.length ((st i).bs.length - k)) ++ (bys (st i).bs).drop (k + min xs.length ((st i).bs.length - k)))) (ho : Only (bp i) (W.drewN j) w') =>
      pool_copied (s.drewN j) hi ((st i).bs.take k ++ (xs ++ (st i).bs.drop (k + xs.length))) (by simp; omega) (by
        rw [hmin, List.take_of_length_le (l := bys xs) (by simp [bys])] at hl2
        simpa [bys] using hl2) ho)
    rw [h2] at e2
    have HH := Lib.hid h2
    clear s h2
    go_enter Tryz.func175, Tryz.ntmps175
    go_wp2_with fail
    refine (owns_yes _ _ h1).mono ?_
    rintro e w1 ⟨rfl, rfl⟩
    go_wp2_with fail
    go_quiet (fail)
    go_wp2_with fail
    refine (FY.out _).mono ?_
    rintro e w1 ⟨rfl, rfl⟩
    go_upto_region 7 with (fail)
    generalize hq : World.drewN W _ = Wq
    have L1 := hq ▸ hL.out _
    have R1 := hq ▸ hR.out _
    have K1 := Lib.hid (hq ▸ KK.out _)
    have y0 : Wq.cell? ⟨bb, off + i * 4, none⟩ = some (.slice (some ⟨bp i, 0, none⟩) (st i).bs.length (st i).bs.length) := by rw [← hq]; exact e0
    have y2 : Wq.cell? ⟨t, 0, none⟩ = some (.int .i64 k) := by rw [← hq]; exact c2
    have y3 : Wq.cell? ⟨q, 0, none⟩ = some (.slice A xs.length cp) := by rw [← hq]; exact c3
    have L2 : Lis Wq.drew 5 1 (.slice (some ⟨bp i, 0, none⟩) (st i).bs.length (st i).bs.length) (st i).bs.length (bys (st i).bs) := L1
    have R2 : Rds Wq.drew A xs.length 1 (bys xs) := R1
    clear L1 R1
    go_region_law (refine step_copy (w := Wq.drew) (by rfl) _ _ _ _ (by rfl) 5 Tryz.underlying62 (by kernel_rfl) L2 k hk (if (st i).bs.length = k then some ⟨bp i, 0, none⟩ else some ⟨bp i, k, none⟩) ((st i).bs.length - k) (fun h => by rw [if_neg (by omega), Nat.zero_add]) A xs.length cp (by rfl) (by rfl) (bys xs) R2 (bys_one _) ?_; intro w5 hl5 ho5)
    all_goals go_wp2_with fail
    all_goals go_ret
    all_goals exact ⟨rfl, K1.out w5 hl5 ⟨ho5.os, ho5.tape, ho5.output, ho5.size, ho5.block⟩⟩
end
end
section
set_option linter.unusedVariables false
set_option maxRecDepth 100000
set_option maxHeartbeats 800000
section
variable {w0 w : World} {S S0 : Nat → Prop} {N L : List Res} {p bb off cap n : Nat} {bp : Nat → Nat} {st : Nat → Buf} {G : Int}
theorem arr_lis_res {w : World} {S : Nat → Prop} {g n : Nat} {t : TypeId} {V : Nat → Value} {xs : List Value} (h : ArrR g t n V w S) (hn : n ≤ maxLen) (hl : xs.length = n) (hx : ∀ j, j < n → xs[j]? = some (V j)) : LisR t 1 (.slice (some ⟨g, 0, none⟩) n n) n xs w S := by
  obtain ⟨arr, hb, hs, hv, hS⟩ := h
  refine ⟨⟨by omega, Or.inr ⟨g, 0, n, arr, rfl, hb, Nat.le_refl _, hn, fun _ => by omega, fun j u hu => ?_⟩⟩, fun b => by rw [hS b]; simp [Value.ownBlock, eq_comm]⟩
  have hj : j < n := by
    rcases Nat.lt_or_ge j xs.length with h | h
    · omega
    · rw [List.getElem?_eq_none h] at hu; cases hu
  rw [hx j hj] at hu
  rw [Nat.zero_add, hv j hj, hu]
/-- The last one turned. -/
theorem _root_.Go.Proofs.YtdjhpdacglojaaaGreat.St.last_turn {w' : World} {R R' : Res} (h : St w0 S0 w (L ++ [R])) (ho : Ok R') (hk : ∀ T, R w T → ∃ T', R' w' T' ∧ Did T T' w w') : St w0 S0 w' (L ++ [R']) := by
  have := h.turn (i := L.length) (R := R) (by simp) ho hk
  simpa using this
theorem _root_.Go.Proofs.YtdjhpdacglojaaaGreat.St.last_lis {e : TypeId} {v : Value} {n : Nat} {xs : List Value} (h : St w0 S0 w (L ++ [LisR e 1 v n xs])) : Lis w e 1 v n xs := h.lis L.length (by simp)
theorem _root_.Go.Proofs.YtdjhpdacglojaaaGreat.St.last_copied {w' : World} {e : TypeId} {g o n cap : Nat} {xs ys : List Value} (h : St w0 S0 w (L ++ [LisR e 1 (.slice (some ⟨g, o, none⟩) n cap) n xs])) (hl : Lis w' e 1 (.slice (some ⟨g, o, none⟩) n cap) n ys) (ho : Only g w w') : St w0 S0 w' (L ++ [LisR e 1 (.slice (some ⟨g, o, none⟩) n cap) n ys]) :=
  h.last_turn (LisR.ok _ _ _ _ _) fun T ⟨_, hT⟩ => ⟨T, ⟨hl, hT⟩, Did.of_only ho ((hT g).2 (by simp [Value.ownBlock])) fun b hb => Or.inl hb⟩
theorem pool_boxes4 (s : St w0 S0 w (PoolL p bb off cap bp n st ++ [])) (t1 t2 t3 t4 : TypeId) (c1 c2 c3 c4 : Array Value) :
    St w0 S0 ((((w.alloc (.cells c1 t1)).alloc (.cells c2 t2)).alloc (.cells c3 t3)).alloc (.cells c4 t4)) (PoolL p bb off cap bp n st ++ [BlkR w.heap.size t1 c1, BlkR (w.heap.size + 1) t2 c2, BlkR (w.heap.size + 2) t3 c3, BlkR (w.heap.size + 3) t4 c4]) := by
  have h := (pool_boxes3 s t1 t2 t3 c1 c2 c3).box t4 c4
  rw [show (((w.alloc (.cells c1 t1)).alloc (.cells c2 t2)).alloc (.cells c3 t3)).heap.size = w.heap.size + 3 by simp, List.append_assoc] at h
  exact h
/-- A pool, and what was made last. -/
theorem pool_end2 {w' : World} {R : Res} (s : St w S w' ((PoolL p bb off cap bp n st ++ N) ++ [R])) : ∃ S', Star [PoolR p n st, R] w' S' ∧ Did S S' w w' := by
  have h := s.comm
  rw [← List.append_assoc] at h
  have h2 := h.take ([R] ++ PoolL p bb off cap bp n st).length
  rw [List.take_left] at h2
  exact (h2.fold (PoolR.ok p n st) fun S h => ⟨bb, off, cap, bp, h⟩).swap01
theorem write_c (ok : POK n st G) {x g by' at' c : Int} {xs : List Int} {st' : Nat → Buf} (h : Via n st x g (WriteB by' at' xs) c st') {A : Option Addr} {cp : Nat} (hx : xs.length ≤ maxLen) : ∀ w S, PoolR p n st w S → Rds w A xs.length 1 (bys xs) →
    Calls Tryz.prog 156 #[.pointer (some ⟨p, 0, none⟩), .agg #[.int .i64 x, .int .u64 g], .int .i64 by', .int .i64 at', .slice A xs.length cp] w fun e w' => e = .returned (.int .i64 c) ∧ ∃ S', PoolR p n st' w' S' ∧ Did S S' w w' := by
  intro w S hp hr
  obtain ⟨bb, off, cap, bp, s⟩ := pool_begin hp
  have s1 := pool_boxes4 s 39 3 3 62 #[.int .i64 x, .int .u64 g] #[.int .i64 by'] #[.int .i64 at'] #[.slice A xs.length cp]
  have hr1 := rds_below hr (((((Below.refl w.heap.size w).alloc (Nat.le_refl _) (.cells #[.int .i64 x, .int .u64 g] 39)).alloc (by simp) (.cells #[.int .i64 by'] 3)).alloc (by simp; omega) (.cells #[.int .i64 at'] 3)).alloc (by simp; omega) (.cells #[.slice A xs.length cp] 62))
  rcases h with ⟨h, rfl, rfl⟩ | ⟨i, b', hi, rfl, ho, rfl, hb, rfl⟩
  · have W1 := Lib.hid (fun f => with_stale s1 ok.n2 x g h f)
    have S1 := Lib.hid s1
    clear s1 s h hr1
    go_enter Tryz.func156, Tryz.ntmps156
    go_wp2_with fail
    refine (W1.out _).mono ?_
    rintro e w2 ⟨rfl, hb⟩
    go_wp2_with fail
    go_ret
    exact ⟨rfl, pool_end (S1.out.stay hb)⟩
  · have W1 := Lib.hid (with_live (Q := fun c' w' => c' = c ∧ ∃ N', St w S w' (PoolL p bb off cap bp n (updB st i b') ++ N')) (caps := #[.pointer (some ⟨w.heap.size + 1, 0, none⟩), .pointer (some ⟨w.heap.size + 1 + 1, 0, none⟩), .pointer (some ⟨w.heap.size + 1 + 1 + 1, 0, none⟩)]) s1 ok.n2 hi ho enter_write (fun W hh hW sW => (write1_c sW hi (ok.b i hi).2.2.2 hb hx (pool_box sW 1 rfl).one (pool_box sW 2 rfl).one (pool_box sW 3 rfl).one (rds_below hr1 hW)).mono fun e w' h => ⟨c, h.1, rfl, _, h.2⟩))
    clear s1 s hb ho hr1
    go_enter Tryz.func156, Tryz.ntmps156
    go_wp2_with fail
    refine W1.out.mono ?_
    rintro e w2 ⟨c', rfl, rfl, N', s2⟩
    go_wp2_with fail
    go_ret
    exact ⟨rfl, pool_end s2⟩
def ReadB (at' m : Int) (b : Buf) (xs : List Int) (c : Int) : Prop := (¬ fits b.bs.length at' m ∧ c = 1 ∧ xs = []) ∨ (fits b.bs.length at' m ∧ c = 0 ∧ xs = (b.bs.drop at'.toNat).take m.toNat)
theorem read_b (at' m : Int) (b : Buf) : ∃ xs c, ReadB at' m b xs c := by
  by_cases h : fits b.bs.length at' m
  · exact ⟨_, _, Or.inr ⟨h, rfl, rfl⟩⟩
  · exact ⟨_, _, Or.inl ⟨h, rfl, rfl⟩⟩
def ReadP (n : Nat) (st : Nat → Buf) (x g at' m : Int) (xs : List Int) (c : Int) : Prop := (¬ live n st x g ∧ xs = [] ∧ c = 3) ∨ ∃ i : Nat, i < n ∧ x = (i : Int) ∧ (st i).owner ≠ 0 ∧ (st i).gen = g ∧ ReadB at' m (st i) xs c
theorem read_ex (n : Nat) (st : Nat → Buf) (x g at' m : Int) : ∃ xs c, ReadP n st x g at' m xs c := by
  by_cases hl : live n st x g
  · obtain ⟨i, h1, h2, h3, h4⟩ := live_at hl
    obtain ⟨xs, c, h⟩ := read_b at' m (st i)
    exact ⟨_, _, Or.inr ⟨i, h1, h2, h3, h4, h⟩⟩
  · exact ⟨_, _, Or.inl ⟨hl, rfl, rfl⟩⟩
def ReadQ (w0 : World) (S0 : Nat → Prop) (P : List Res) (a : Res) (f t q : Nat) (at' m : Int) (N : List Res) (xs : List Int) (w' : World) : Prop :=
  ∃ B cp, St w0 S0 w' ((P ++ ([a, BlkR f 3 #[.int .i64 at'], BlkR t 3 #[.int .i64 m], BlkR q 62 #[.slice B xs.length cp]] ++ N)) ++ [LisR 5 1 (.slice B xs.length cp) xs.length (bys xs)])
theorem read1_c {W : World} {a : Res} {f t q : Nat} {at' m : Int} (s : St w0 S0 W (PoolL p bb off cap bp n st ++ ([a, BlkR f 3 #[.int .i64 at'], BlkR t 3 #[.int .i64 m], BlkR q 62 #[.slice none 0 0]] ++ N))) {i : Nat} (hi : i < n) (hl : (st i).bs.length ≤ 65536) {xs : List Int} {c : Int} (h : ReadB at' m (st i) xs c) :
    Calls Tryz.prog 83 #[.pointer (some ⟨bb, off + i * 4, none⟩), .pointer (some ⟨f, 0, none⟩), .pointer (some ⟨t, 0, none⟩), .pointer (some ⟨q, 0, none⟩)] W fun e w' => e = .returned (.int .i64 c) ∧ ReadQ w0 S0 (PoolL p bb off cap bp n st) a f t q at' m N xs w' := by
  obtain ⟨e0, -, -, -⟩ := pool_four s hi
  have c1 := (pool_box s 1 rfl).one
  have c2 := (pool_box s 2 rfl).one
  rcases h with ⟨h1, rfl, rfl⟩ | ⟨h1, rfl, rfl⟩
  · have FN := Lib.hid (fits_no (w := W) (q := ⟨bb, off + i * 4, none⟩) (v := some ⟨bp i, 0, none⟩) hl at' m e0 h1)
    have S1 := Lib.hid (s.lis_nil 5 1)
    clear s h1
    go_enter Tryz.func83, Tryz.ntmps83
    go_wp2_with fail
    refine FN.out.mono ?_
    rintro e w1 ⟨rfl, rfl⟩
    go_wp2_with fail
    go_ret
    exact ⟨rfl, _, _, S1.out⟩
  · have FY := Lib.hid (fits_yes (w := W) (q := ⟨bb, off + i * 4, none⟩) (v := some ⟨bp i, 0, none⟩) hl at' m e0 h1)
    obtain ⟨f1, f2, f3, f4⟩ := h1
    obtain ⟨k, rfl⟩ := Int.eq_ofNat_of_zero_le f1
    obtain ⟨M, rfl⟩ := Int.eq_ofNat_of_zero_le f3
    have hk : k ≤ (st i).bs.length := by omega
    have hkx : k + M ≤ (st i).bs.length := by omega
    obtain ⟨i0, hi0, hz0, hz1, hz2⟩ := info_parts Tryz.infoU8
    have SS := Lib.hid s
    clear s f1 f2 f3 f4
    go_enter Tryz.func83, Tryz.ntmps83
    go_wp2_with fail
    refine FY.out.mono ?_
    rintro e w1 ⟨rfl, rfl⟩
    clear FY
    go_wp2_with (refine wpList_make_full _ rfl _ _ 62 rfl W.heap.size 5 i0 (.int .u8 0) 1 Tryz.underlying62 hi0 hz0 hz1 .i64 .i64 M M M rfl rfl rfl rfl (by rw [hz2]; omega) (by unfold maxLen; omega) (Nat.le_refl _) ?_; intro w3 hown hgrow; have s3 := (SS.out.make rfl hown hgrow).fold (R := LisR 5 1 (.slice (some ⟨W.heap.size, 0, none⟩) M M) M (bys (List.replicate M 0))) (LisR.ok _ _ _ _ _) (fun S h => arr_lis_res (star_one h) (by unfold maxLen; omega) (by simp [bys]) (fun j hj => by simp [bys, hj])); rw [List.append_assoc] at s3; have q3 := (pool_box s3 3 rfl).one; have z3 := (pool_box s3 3 rfl).frozen 0; clear hown hgrow)
    have s5' := pool_box_set s3 3 rfl 0 (.slice (some ⟨W.heap.size, 0, none⟩) M M)
    generalize W.heap.size = g at *
    generalize w3.setCell ⟨q, 0, none⟩ (.slice (some ⟨g, 0, none⟩) M M) = w5 at *
    have s5 : St w0 S0 w5.drew ((PoolL p bb off cap bp n st ++ ([a, BlkR f 3 #[.int .i64 k], BlkR t 3 #[.int .i64 M], BlkR q 62 #[.slice (some ⟨g, 0, none⟩) M M]] ++ N)) ++ [LisR 5 1 (.slice (some ⟨g, 0, none⟩) M M) M (bys (List.replicate M 0))]) := by
      rw [List.append_assoc]
      exact s5'.drew
    obtain ⟨y0, -, -, -⟩ := pool_four s5' hi
    have y1 := (pool_box s5' 1 rfl).one
    have y3 : w5.cell? ⟨q, 0, none⟩ = some (.slice (some ⟨g, 0, none⟩) M M) := (pool_box s5' 3 rfl).one
    have L2 := s5.last_lis
    have R2 : Rds w5.drew (if (st i).bs.length = k then some ⟨bp i, 0, none⟩ else some ⟨bp i, k, none⟩) ((st i).bs.length - k) 1 (bys ((st i).bs.drop k)) := by
      have hb : Lis w5 5 1 (.slice (some ⟨bp i, 0, none⟩) (st i).bs.length (st i).bs.length) (st i).bs.length (bys (st i).bs) := s5'.lis _ (pool_idx (by omega) hi)
      have hc := (hb.cut hk).reads
      refine ⟨by simp [bys], ?_⟩
      rcases hc.2 with h | ⟨g', o', he, hcc⟩
      · exact Or.inl h
      · by_cases hkk : (st i).bs.length = k
        · exact Or.inl (by omega)
        · refine Or.inr ⟨bp i, k, by rw [if_neg hkk], fun j u hu => ?_⟩
          rw [if_neg hkk] at he
          rw [Option.map_some, Go.WideShapes.add_plain] at he
          have he2 : bp i = g' ∧ k = o' := by simpa using he
          obtain ⟨rfl, rfl⟩ := he2
          exact hcc j u (by simpa [bys] using hu)
    have S5 := Lib.hid s5
    clear s5 s5' s3 q3 z3 SS e0 c1 c2
    go_region_law (refine step_copy (w := w5.drew) (by rfl) _ _ _ _ (by rfl) 5 Tryz.underlying62 (by kernel_rfl) L2 0 (Nat.zero_le _) (some ⟨g, 0, none⟩) M (fun h => rfl) (if (st i).bs.length = k then some ⟨bp i, 0, none⟩ else some ⟨bp i, k, none⟩) ((st i).bs.length - k) ((st i).bs.length - k) (by rfl) (by rfl) (bys ((st i).bs.drop k)) R2 (bys_one _) ?_; intro w6 hl6 ho6)
    all_goals
      have hmin : min ((st i).bs.length - k) (M - 0) = M := by omega
      have hlen : (((st i).bs.drop k).take M).length = M := by simp; omega
      have e6 : (bys (List.replicate M 0)).take 0 ++ (bys ((st i).bs.drop k)).take M ++ (bys (List.replicate M 0)).drop (0 + M) = bys (((st i).bs.drop k).take M) := by simp [bys]
      rw [hmin, e6] at hl6
      have S6 := Lib.hid (S5.out.last_copied hl6 ho6)
      clear hl6 ho6 S5
    all_goals go_wp2_with fail
    all_goals go_ret
    all_goals exact ⟨rfl, some ⟨g, 0, none⟩, M, by
      show St w0 S0 w6 ((PoolL p bb off cap bp n st ++ ([a, BlkR f 3 #[.int .i64 k], BlkR t 3 #[.int .i64 M], BlkR q 62 #[.slice (some ⟨g, 0, none⟩) (((st i).bs.drop k).take M).length M]] ++ N)) ++ [LisR 5 1 (.slice (some ⟨g, 0, none⟩) (((st i).bs.drop k).take M).length M) (((st i).bs.drop k).take M).length (bys (((st i).bs.drop k).take M))])
      rw [hlen]
      exact S6.out⟩
end
end
section
set_option linter.unusedVariables false
set_option maxRecDepth 100000
set_option maxHeartbeats 800000
section
variable {w0 w : World} {S S0 : Nat → Prop} {N L : List Res} {p bb off cap n : Nat} {bp : Nat → Nat} {st : Nat → Buf} {G : Int}
theorem read_m (ok : POK n st G) {x g at' m c : Int} {xs : List Int} (h : ReadP n st x g at' m xs c) :
    Meth Tryz.prog 27 #[.pointer (some ⟨p, 0, none⟩), .agg #[.int .i64 x, .int .u64 g], .int .i64 at', .int .i64 m] (PoolR p n st) fun e R' N => R' = PoolR p n st ∧ ∃ B cp, e = .returned (.tuple #[.slice B xs.length cp, .int .i64 c]) ∧ N = [LisR 5 1 (.slice B xs.length cp) xs.length (bys xs)] := by
  intro w S hp
  obtain ⟨bb, off, cap, bp, s⟩ := pool_begin hp
  have s1 := pool_boxes4 s 39 3 3 62 #[.int .i64 x, .int .u64 g] #[.int .i64 at'] #[.int .i64 m] #[.slice none 0 0]
  rcases h with ⟨h, rfl, rfl⟩ | ⟨i, hi, rfl, ho, rfl, hb⟩
  · have W1 := Lib.hid (fun f => with_stale s1 ok.n2 x g h f)
    have S1 := Lib.hid s1
    clear s1 s h
    go_enter Tryz.func27, Tryz.ntmps27
    go_wp2_with fail
    refine (W1.out _).mono ?_
    rintro e w2 ⟨rfl, hb⟩
    have s2 := S1.out.stay hb
    have q3 := (pool_box s2 3 rfl).one
    have S2 := Lib.hid (pool_end2 (s2.lis_nil 5 1))
    clear s2 hb S1 W1
    go_wp2_with fail
    go_ret2
    exact ⟨_, _, ⟨rfl, none, 0, rfl, rfl⟩, PoolR.ok p n st, S2.out⟩
  · have W1 := Lib.hid (with_live (Q := fun c' w' => c' = c ∧ ∃ N', ReadQ w S (PoolL p bb off cap bp n st) (BlkR w.heap.size 39 #[.int .i64 i, .int .u64 (st i).gen]) (w.heap.size + 1) (w.heap.size + 2) (w.heap.size + 3) at' m N' xs w') (caps := #[.pointer (some ⟨w.heap.size + 1, 0, none⟩), .pointer (some ⟨w.heap.size + 1 + 1, 0, none⟩), .pointer (some ⟨w.heap.size + 1 + 1 + 1, 0, none⟩)]) s1 ok.n2 hi ho enter_read (fun W hh hW sW => (read1_c sW hi (ok.b i hi).2.2.2 hb).mono fun e w' h => ⟨c, h.1, rfl, _, h.2⟩))
    clear s1 s hb ho
    go_enter Tryz.func27, Tryz.ntmps27
    go_wp2_with fail
    refine W1.out.mono ?_
    rintro e w2 ⟨c', rfl, rfl, N', B, cp, s2⟩
    have s3 := s2
    rw [List.append_assoc] at s3
    have q3 : w2.cell? ⟨w.heap.size + 3, 0, none⟩ = some (.slice B xs.length cp) := (pool_box s3 3 rfl).one
    have S2 := Lib.hid (pool_end2 s2)
    clear s2 s3 W1
    go_wp2_with fail
    go_ret2
    exact ⟨_, _, ⟨rfl, B, cp, rfl, rfl⟩, PoolR.ok p n st, S2.out⟩
/-- How many are free. -/
def frees (st : Nat → Buf) : Nat → Nat
  | 0 => 0
  | k + 1 => frees st k + (if (st k).owner = 0 then 1 else 0)
theorem frees_le (st : Nat → Buf) : ∀ k, frees st k ≤ k
  | 0 => Nat.le_refl _
  | k + 1 => by have := frees_le st k; unfold frees; split <;> omega
end
end
section
set_option linter.unusedVariables false
set_option maxRecDepth 100000
set_option maxHeartbeats 800000
def fit (st : Nat → Buf) (z : Int) (j : Nat) : Prop := (st j).owner = 0 ∧ z ≤ ((st j).bs.length : Nat)
def got (b : Buf) : Buf := { b with owner := 1, refs := 1, bs := List.replicate b.bs.length 0 }
/-- What a Get answers, and what is there then. -/
def GetP (n : Nat) (st : Nat → Buf) (z x g c : Int) (st' : Nat → Buf) : Prop :=
  (¬ (1 ≤ z ∧ z ≤ ((st (n - 1)).bs.length : Nat)) ∧ x = 0 ∧ g = 0 ∧ c = 1 ∧ st' = st) ∨
  ((1 ≤ z ∧ z ≤ ((st (n - 1)).bs.length : Nat)) ∧ (∀ j, j < n → ¬ fit st z j) ∧ x = 0 ∧ g = 0 ∧ c = 5 ∧ st' = st) ∨
  ((1 ≤ z ∧ z ≤ ((st (n - 1)).bs.length : Nat)) ∧ ∃ i : Nat, i < n ∧ (∀ j, j < i → ¬ fit st z j) ∧ fit st z i ∧ x = (i : Int) ∧ g = (st i).gen ∧ c = 0 ∧ st' = updB st i (got (st i)))
theorem first_fit (P : Nat → Prop) : ∀ n, (∀ j, j < n → ¬ P j) ∨ ∃ i, i < n ∧ (∀ j, j < i → ¬ P j) ∧ P i
  | 0 => Or.inl fun j h => absurd h (by omega)
  | n + 1 => by
    rcases first_fit P n with h | ⟨i, h1, h2, h3⟩
    · rcases Classical.em (P n) with hp | hp
      · exact Or.inr ⟨n, by omega, h, hp⟩
      · exact Or.inl fun j hj => by
          by_cases e : j = n
          · rw [e]; exact hp
          · exact h j (by omega)
    · exact Or.inr ⟨i, by omega, h2, h3⟩
theorem get_ex (n : Nat) (st : Nat → Buf) (z : Int) : ∃ x g c st', GetP n st z x g c st' := by
  by_cases h : 1 ≤ z ∧ z ≤ ((st (n - 1)).bs.length : Nat)
  · rcases first_fit (fit st z) n with h2 | ⟨i, h1, h2, h3⟩
    · exact ⟨_, _, _, _, Or.inr (Or.inl ⟨h, h2, rfl, rfl, rfl, rfl⟩)⟩
    · exact ⟨_, _, _, _, Or.inr (Or.inr ⟨h, i, h1, h2, h3, rfl, rfl, rfl, rfl⟩)⟩
  · exact ⟨_, _, _, _, Or.inl ⟨h, rfl, rfl, rfl, rfl⟩⟩
theorem zero_u8 (w : World) : (zeroValue 5).run Tryz.prog w = .ok (.int .u8 0) w := by
  obtain ⟨i0, hi0, hz0, hz1, hz2⟩ := info_parts Tryz.infoU8
  simp [zeroValue, typeInfo, hi0, hz0]
section
variable {w0 w : World} {S S0 : Nat → Prop} {N L : List Res} {p bb off cap n : Nat} {bp : Nat → Nat} {st : Nat → Buf} {G : Int}
theorem get_c (ok : POK n st G) {z x g c : Int} {st' : Nat → Buf} (h : GetP n st z x g c st') : ∀ w S, PoolR p n st w S →
    Calls Tryz.prog 37 #[.pointer (some ⟨p, 0, none⟩), .int .i64 z] w fun e w' => e = .returned (.tuple #[.agg #[.int .i64 x, .int .u64 g], .int .i64 c]) ∧ ∃ S', PoolR p n st' w' S' ∧ Did S S' w w' := by
  intro w S hp
  obtain ⟨bb, off, cap, bp, s⟩ := pool_begin hp
  have h1 := ok.n1
  have h8 := ok.n2
  have s1 := s.box 39 #[.int .i64 0, .int .u64 0]
  rw [List.append_assoc] at s1
  have c0 := pool_p s1
  obtain ⟨n', rfl⟩ : ∃ n', n = n' + 1 := ⟨n - 1, by omega⟩
  unfold GetP at h
  rw [show n' + 1 - 1 = n' by omega] at h
  have hlen := (ok.b n' (by omega)).2.2.2
  obtain ⟨e0, -, -, -⟩ := pool_four s1 (i := n') (by omega)
  have wn : IntKind.i64.wrap (((n' + 1 : Nat) : Int) - 1) = (n' : Int) := by
    rw [IntWalk.i64_in _ ⟨by omega, by omega⟩]; omega
  have n0 : (0 : Int) ≤ (n' : Int) := by omega
  have n1 : (n' : Int) < ((n' + 1 : Nat) : Int) := by omega
  obtain ⟨b0, b1⟩ := (Blk.new w 39 #[.int .i64 0, .int .u64 0]).two
  have fb0 := (Blk.new w 39 #[.int .i64 0, .int .u64 0]).frozen 0
  have fb1 := (Blk.new w 39 #[.int .i64 0, .int .u64 0]).frozen 1
  have SD := Lib.hid (fun q => pool_box_set (pool_box_set (s1.drewN q) 0 rfl 0 (.int .i64 0)) 0 rfl 1 (.int .u64 0))
  have S1 := Lib.hid s1
  clear s1 s
  generalize hle : (st n').bs.length = le at *
  by_cases hz : 1 ≤ z ∧ z ≤ (le : Int)
  · have d1 : decide (z < 1) = false := decide_eq_false (by omega)
    have d2 : decide ((le : Int) < z) = false := decide_eq_false (by omega)
    go_enter Tryz.func37, Tryz.ntmps37
    go_wp2_with fail
    go_quiet (fail)
    go_wp2_with fail
    go_loopw [36] (fun i wr => ∃ k : Nat, k ≤ n' + 1 ∧ i = .int .i64 k ∧ (∀ j, j < k → ¬ fit st z j) ∧ St w S wr (PoolL p bb off cap bp (n' + 1) st ++ [BlkR w.heap.size 39 #[.int .i64 0, .int .u64 0]])) (fun i _ => (n' + 1) - (intOf i).toNat)
    case atStart => exact ⟨0, by omega, rfl, fun j hj => absurd hj (by omega), S1.out.drewN _⟩
    case round =>
      clear c0 b0 b1 fb0 fb1 e0 S1
      obtain ⟨k, hk, rfl, hno, sr⟩ := hrel
      have c0 := pool_p sr
      have i0' : (0 : Int) ≤ (k : Int) := by omega
      by_cases hlt : k < n' + 1
      · obtain ⟨e0, e1, e2, e3⟩ := pool_four sr hlt
        have hlk := (ok.b k hlt).2.2.2
        have i1' : (k : Int) < ((n' + 1 : Nat) : Int) := by omega
        by_cases ho : (st k).owner = 0
        · by_cases hf : z ≤ ((st k).bs.length : Nat)
          · obtain ⟨rfl, rfl, rfl, rfl⟩ : x = (k : Int) ∧ g = (st k).gen ∧ c = 0 ∧ st' = updB st k (got (st k)) := by
              rcases h with ⟨h, -⟩ | ⟨-, h, -⟩ | ⟨-, i, hi, hj, hfi, h⟩
              · exact absurd hz h
              · exact absurd ⟨ho, hf⟩ (h k hlt)
              · obtain rfl : i = k := by
                  rcases Nat.lt_trichotomy i k with hh | hh | hh
                  · exact absurd hfi (hno i hh)
                  · exact hh
                  · exact absurd ⟨ho, hf⟩ (hj k hh)
                exact h
            rw [ho] at e2
            have d3 : decide (((st k).bs.length : Int) < z) = false := decide_eq_false (by omega)
            have hL := sr.lis _ (pool_idx (N := [BlkR w.heap.size 39 #[.int .i64 0, .int .u64 0]]) (bp := bp) (st := st) (p := p) (bb := bb) (off := off) (cap := cap) (by omega) hlt)
            have SR := Lib.hid sr
            have HO := Lib.hid ho
            clear sr h hno ho e3
            go_wp2_with (refine wpList_clear rfl (.tmp 62) 62 rfl (.int .u8 0) Tryz.underlying62 zero_u8 rfl rfl rfl hL (by omega) ?_; intro w4 hl4 ho4; have s4 := pool_copied SR.out hlt (List.replicate (st k).bs.length 0) (by simp) (by simpa [bys] using hl4) ho4; clear hl4 ho4 hL e0 e1 e2; obtain ⟨e0, e1, e2, e3⟩ := pool_four s4 hlt; have f2 := pool_frozen s4 (off + k * 4 + 2); have s5 := pool_seto s4 hlt 1; rw [updB_two] at s5; obtain ⟨-, -, -, g3⟩ := pool_four s5 hlt; have f3 := pool_frozen s5 (off + k * 4 + 3); have s6 := pool_setr s5 hlt 1; rw [updB_two] at s6; obtain ⟨-, g1, -, -⟩ := pool_four s6 hlt; simp only [updB_self] at e2 g3 g1; have q0 := (pool_box s6 0 rfl).two; have z0 := (pool_box s6 0 rfl).frozen 0; have s7 := pool_box_set s6 0 rfl 0 (.int .i64 k); have q1 := (pool_box s7 0 rfl).two; have z1 := (pool_box s7 0 rfl).frozen 1; have s8 := pool_box_set s7 0 rfl 1 (.int .u64 (st k).gen); have q2 := (pool_box s8 0 rfl).two)
            simp only [updB_self] at s8
            refine bodyPost_ret (v := .tuple #[.agg #[.int .i64 k, .int .u64 (st k).gen], .int .i64 0]) ?_ rfl ⟨rfl, pool_end (st := updB st k (got (st k))) s8⟩
            simp [results, go_sem, q2.1, q2.2]
          · have d3 : decide (((st k).bs.length : Int) < z) = true := decide_eq_true (by omega)
            have HNO := Lib.hid (show ∀ j, j < k + 1 → ¬ fit st z j from fun j hj => by
              by_cases e : j = k
              · rw [e]; exact fun hh => hf hh.2
              · exact hno j (by omega))
            rw [ho] at e2
            have SR := Lib.hid sr
            clear sr h hno e1 e3 ho
            generalize (st k).bs.length = lk at *
            go_wp2_with fail
            go_roundw
            case rel => exact ⟨k + 1, by omega, by go_num, HNO.out, SR.out⟩
            case measure => simp [intOf]; omega
        · have z0 : ((st k).owner != 0) = true := by simp [bne, ho]
          have HNO := Lib.hid (show ∀ j, j < k + 1 → ¬ fit st z j from fun j hj => by
              by_cases e : j = k
              · rw [e]; exact fun hh => ho hh.1
              · exact hno j (by omega))
          have SR := Lib.hid sr
          clear sr h hno e1 e3 ho
          generalize (st k).owner = ow at *
          go_wp2_with fail
          go_roundw
          case rel => exact ⟨k + 1, by omega, by go_num, HNO.out, SR.out⟩
          case measure => simp [intOf]; omega
      · obtain rfl : k = n' + 1 := by omega
        obtain ⟨rfl, rfl, rfl, rfl⟩ : x = 0 ∧ g = 0 ∧ c = 5 ∧ st' = st := by
          rcases h with ⟨h, -⟩ | ⟨-, -, h⟩ | ⟨-, i, hi, hj, hfi, h⟩
          · exact absurd hz h
          · exact h
          · exact absurd hfi (hno i hi)
        have q0 := (pool_box sr 0 rfl).two
        have z0 := (pool_box sr 0 rfl).frozen 0
        have z1 := (pool_box sr 0 rfl).frozen 1
        have s7 := pool_box_set sr 0 rfl 0 (.int .i64 0)
        have q1 := (pool_box s7 0 rfl).two
        have z2 := (pool_box s7 0 rfl).frozen 1
        have s8 := pool_box_set s7 0 rfl 1 (.int .u64 0)
        have q2 := (pool_box s8 0 rfl).two
        have S8 := Lib.hid s8
        clear s7 s8 sr h hno
        go_wp2_with fail
        refine bodyPost_ret (v := .tuple #[.agg #[.int .i64 0, .int .u64 0], .int .i64 5]) ?_ rfl ⟨rfl, pool_end S8.out⟩
        simp [results, go_sem, q2.1, q2.2]
  · obtain ⟨rfl, rfl, rfl, rfl⟩ : x = 0 ∧ g = 0 ∧ c = 1 ∧ st' = st := by
      rcases h with ⟨-, h⟩ | ⟨h, -⟩ | ⟨h, -⟩
      · exact h
      · exact absurd h hz
      · exact absurd h hz
    by_cases hz1 : 1 ≤ z
    · have d1 : decide (z < 1) = false := decide_eq_false (by omega)
      have d2 : decide ((le : Int) < z) = true := decide_eq_true (by omega)
      clear h hle hz
      go_enter Tryz.func37, Tryz.ntmps37
      go_wp2_with fail
      go_quiet (fail)
      go_wp2_with fail
      refine bodyPost_ret (v := .tuple #[.agg #[.int .i64 0, .int .u64 0], .int .i64 1]) ?_ rfl ⟨rfl, pool_end (SD.out _)⟩
      simp [results, go_sem, b0, b1]
    · have d1 : decide (z < 1) = true := decide_eq_true (by omega)
      clear h hle hz
      go_enter Tryz.func37, Tryz.ntmps37
      go_wp2_with fail
      go_quiet (fail)
      go_wp2_with fail
      refine bodyPost_ret (v := .tuple #[.agg #[.int .i64 0, .int .u64 0], .int .i64 1]) ?_ rfl ⟨rfl, pool_end (SD.out _)⟩
      simp [results, go_sem, b0, b1]
end
end
section
set_option linter.unusedVariables false
set_option maxRecDepth 100000
set_option maxHeartbeats 800000
def prevZ (Z : Nat → Int) : Nat → Int
  | 0 => 0
  | k + 1 => Z k
def okC (Z C : Nat → Int) (k : Nat) : Prop := prevZ Z k < Z k ∧ Z k ≤ 65536 ∧ 1 ≤ C k ∧ C k ≤ 100
instance (Z C : Nat → Int) (k : Nat) : Decidable (okC Z C k) := by unfold okC; infer_instance
def mayC (n : Nat) (Z C : Nat → Int) : Prop := (1 ≤ n ∧ n ≤ 8) ∧ ∀ k, k < n → okC Z C k
instance (n : Nat) (Z C : Nat → Int) : Decidable (mayC n Z C) := by unfold mayC; infer_instance
def flatC (Z C : Nat → Int) : Nat → List Nat
  | 0 => []
  | k + 1 => flatC Z C k ++ List.replicate (C k).toNat (Z k).toNat
theorem flatC_len {n : Nat} {Z C : Nat → Int} (h : ∀ k, k < n → okC Z C k) : ∀ k, k ≤ n → (flatC Z C k).length ≤ 100 * k
  | 0, _ => by simp [flatC]
  | k + 1, hk => by
    have h1 := flatC_len h k (by omega)
    have h2 := h k (by omega)
    unfold okC at h2
    simp [flatC]
    omega
def fresh (zs : List Nat) (i : Nat) : Buf := ⟨1, 0, 0, List.replicate (zs.getD i 0) 0⟩
def Cls (V : Nat → Nat → Value) (n : Nat) (Z C : Nat → Int) : Prop := ∀ j, j < n → V j 0 = .int .i64 (Z j) ∧ V j 1 = .int .i64 (C j) ∧ (-9223372036854775808 ≤ Z j ∧ Z j ≤ 9223372036854775807) ∧ (-9223372036854775808 ≤ C j ∧ C j ≤ 9223372036854775807)
section
variable {w0 w : World} {S S0 : Nat → Prop} {N L : List Res} {A : Option Addr} {n cap : Nat} {V : Nat → Nat → Value} {Z C : Nat → Int}
theorem may_c (rd : RdM w A n 2 V) (hV : Cls V n Z C) (hn : n ≤ maxLen) (b : Bool) (hb : b = decide (mayC n Z C)) :
    Calls Tryz.prog 87 #[.slice A n cap] w fun e w' => e = .returned (.bool b) ∧ Below w.heap.size w w' := by
  unfold maxLen at hn
  have HB := Lib.hid hb
  clear hb
  by_cases h1 : 1 ≤ n
  · have d1 : decide ((n : Int) < 1) = false := decide_eq_false (by omega)
    by_cases h8 : n ≤ 8
    · have d8 : decide (8 < (n : Int)) = false := decide_eq_false (by omega)
      go_enter Tryz.func87, Tryz.ntmps87
      go_wp2_with fail
      go_loopw [3, 16] (fun a i wr => ∃ k : Nat, k ≤ n ∧ i = .int .i64 k ∧ a = .int .i64 (prevZ Z k) ∧ (∀ j, j < k → okC Z C j) ∧ Below w.heap.size w wr) (fun _ i _ => n - (intOf i).toNat)
      case atStart => exact ⟨0, by omega, rfl, rfl, fun j hj => absurd hj (by omega), Below.refl _ _⟩
      case round =>
        obtain ⟨k, hk, rfl, rfl, hok, hbl⟩ := hrel
        by_cases hlt : k < n
        · obtain ⟨v0, v1, bz, bc⟩ := hV k hlt
          obtain ⟨ib, off, rfl, e0, e1⟩ := rd.at2 hbl hlt
          rw [v0] at e0
          rw [v1] at e1
          have BL := Lib.hid (fun o => hbl.alloc hbl.size o)
          have HOK := Lib.hid hok
          have HZ := Lib.hid (show prevZ Z (k + 1) = Z k from rfl)
          obtain ⟨pz, hpz⟩ : ∃ x, prevZ Z k = x := ⟨_, rfl⟩
          obtain ⟨z, hz⟩ : ∃ x, Z k = x := ⟨_, rfl⟩
          obtain ⟨cc, hc⟩ : ∃ x, C k = x := ⟨_, rfl⟩
          have HD : okC Z C k ↔ (pz < z ∧ z ≤ 65536 ∧ 1 ≤ cc ∧ cc ≤ 100) := by unfold okC; rw [hpz, hz, hc]
          have HDD := Lib.hid HD
          rw [hz] at e0 bz HZ
          rw [hc] at e1 bc
          rw [hpz]
          have hno : ¬ (pz < z ∧ z ≤ 65536 ∧ 1 ≤ cc ∧ cc ≤ 100) → b = false := fun hh => by
            rw [HB.out]
            exact decide_eq_false fun hm => hh (HDD.out.1 (hm.2 k hlt))
          have HN := Lib.hid hno
          clear hok hbl hpz hz hc HD hno rd hV v0 v1
          by_cases q1 : pz < z
          · have z1 : decide (z ≤ pz) = false := decide_eq_false (by omega)
            by_cases q2 : z ≤ 65536
            · have z2 : decide (65536 < z) = false := decide_eq_false (by omega)
              by_cases q3 : 1 ≤ cc
              · have z3 : decide (cc < 1) = false := decide_eq_false (by omega)
                by_cases q4 : cc ≤ 100
                · have z4 : decide (100 < cc) = false := decide_eq_false (by omega)
                  have HO2 := Lib.hid (show ∀ j, j < k + 1 → okC Z C j from fun j hj => by
                    by_cases e : j = k
                    · rw [e]; exact HDD.out.2 ⟨q1, q2, q3, q4⟩
                    · exact HOK.out j (by omega))
                  go_wp2_with fail
                  go_roundw
                  case rel => exact ⟨k + 1, by omega, by go_num, by rw [HZ.out], HO2.out, BL.out _⟩
                  case measure => simp [intOf]; omega
                · have z4 : decide (100 < cc) = true := decide_eq_true (by omega)
                  obtain rfl := HN.out (fun h => q4 h.2.2.2)
                  go_wp2_with fail
                  go_ret
                  exact ⟨rfl, BL.out _⟩
              · have z3 : decide (cc < 1) = true := decide_eq_true (by omega)
                obtain rfl := HN.out (fun h => q3 h.2.2.1)
                go_wp2_with fail
                go_ret
                exact ⟨rfl, BL.out _⟩
            · have z2 : decide (65536 < z) = true := decide_eq_true (by omega)
              obtain rfl := HN.out (fun h => q2 h.2.1)
              go_wp2_with fail
              go_ret
              exact ⟨rfl, BL.out _⟩
          · have z1 : decide (z ≤ pz) = true := decide_eq_true (by omega)
            obtain rfl := HN.out (fun h => q1 h.1)
            go_wp2_with fail
            go_ret
            exact ⟨rfl, BL.out _⟩
        · obtain rfl : k = n := by omega
          obtain rfl : b = true := by rw [HB.out]; exact decide_eq_true ⟨⟨h1, h8⟩, hok⟩
          clear hok
          go_wp2
          go_ret
          exact ⟨rfl, hbl⟩
    · have d8 : decide (8 < (n : Int)) = true := decide_eq_true (by omega)
      obtain rfl : b = false := by rw [HB.out]; exact decide_eq_false fun h => h8 h.1.2
      go_enter Tryz.func87, Tryz.ntmps87
      go_wp2
      go_ret
      exact ⟨rfl, Below.refl _ _⟩
  · have d1 : decide ((n : Int) < 1) = true := decide_eq_true (by omega)
    obtain rfl : b = false := by rw [HB.out]; exact decide_eq_false fun h => h1 h.1.1
    go_enter Tryz.func87, Tryz.ntmps87
    go_wp2
    go_ret
    exact ⟨rfl, Below.refl _ _⟩
end
end
section
set_option linter.unusedVariables false
set_option maxRecDepth 100000
set_option maxHeartbeats 1600000
theorem Tryz.infoBuf : (Tryz.prog.info? 177).map (fun i => (i.zero, i.size, i.bytes)) = some (some (.agg #[.slice none 0 0, .int .u64 0, .int .i64 0, .int .i64 0]), 4, 48) := by kernel_rfl
def upd (f : Nat → Nat) (k x : Nat) : Nat → Nat := fun j => if j = k then x else f j
/-- A pool on its way. -/
def MakeL (cb p : Nat) (z c : Int) (A : Option Addr) (cap : Nat) (bp : Nat → Nat) (zs : List Nat) : List Res :=
  [BlkR cb 186 #[.int .i64 z, .int .i64 c], BlkR p 184 #[.slice A zs.length cap], LisR 177 4 (.slice A zs.length cap) zs.length (grid zs.length 4 (bv (fresh zs) bp))] ++ (List.range zs.length).map (fun i => BR (bp i) (fresh zs i).bs)
def HeadL (p : Nat) (A : Option Addr) (cap : Nat) (bp : Nat → Nat) (zs : List Nat) : List Res :=
  [BlkR p 184 #[.slice A zs.length cap], LisR 177 4 (.slice A zs.length cap) zs.length (grid zs.length 4 (bv (fresh zs) bp))] ++ (List.range zs.length).map (fun i => BR (bp i) (fresh zs i).bs)
theorem flatC_pos {n : Nat} {Z C : Nat → Int} (h : mayC n Z C) : 0 < (flatC Z C n).length := by
  obtain ⟨⟨h1, h2⟩, h3⟩ := h
  obtain ⟨j, rfl⟩ : ∃ j, n = j + 1 := ⟨n - 1, by omega⟩
  have h4 := h3 j (by omega)
  unfold okC at h4
  simp [flatC]
  omega
theorem flatC_mem {n : Nat} {Z C : Nat → Int} (h : ∀ k, k < n → okC Z C k) : ∀ k, k ≤ n → ∀ x ∈ flatC Z C k, x ≤ 65536
  | 0, _, x, hx => by simp [flatC] at hx
  | k + 1, hk, x, hx => by
    have h1 := h k (by omega)
    unfold okC at h1
    rcases List.mem_append.1 hx with hx | hx
    · exact flatC_mem h k (by omega) x hx
    · have := List.eq_of_mem_replicate hx
      omega
theorem fresh_ok {zs : List Nat} (h1 : 1 ≤ zs.length) (h2 : zs.length ≤ 800) (h3 : ∀ x ∈ zs, x ≤ 65536) : POK zs.length (fresh zs) 1 :=
  ⟨h1, h2, by omega, fun i hi => by
    refine ⟨⟨?_, ?_⟩, ⟨?_, ?_⟩, ⟨?_, ?_⟩, ?_⟩ <;> simp [fresh]
    have := h3 (zs[i]) (List.getElem_mem hi)
    simp [List.getElem?_eq_getElem hi, this]⟩
theorem new_ok {n : Nat} {Z C : Nat → Int} (h : mayC n Z C) : POK (flatC Z C n).length (fresh (flatC Z C n)) 1 :=
  fresh_ok (flatC_pos h) (by have := flatC_len h.2 n (Nat.le_refl _); have := h.1; omega) (flatC_mem h.2 n (Nat.le_refl _))
theorem fresh_old (zs : List Nat) (m : Nat) {i : Nat} (h : i < zs.length) : fresh (zs ++ [m]) i = fresh zs i := by simp [fresh, List.getD, List.getElem?_append_left h]
theorem fresh_new (zs : List Nat) (m : Nat) : fresh (zs ++ [m]) zs.length = ⟨1, 0, 0, List.replicate m 0⟩ := by simp [fresh, List.getD]
section
variable {w0 w : World} {S S0 : Nat → Prop} {N L : List Res} {A : Option Addr} {n cap p cb : Nat} {bp : Nat → Nat} {zs : List Nat} {V : Nat → Nat → Value} {Z C : Nat → Int} {z c : Int}
/-- One buffer more. -/
theorem make_snoc {B : Option Addr} {cap' g m : Nat} (hm : m ≤ 65536)
    (h : St w0 S0 w (([BlkR cb 186 #[.int .i64 z, .int .i64 c], BlkR p 184 #[.slice B (zs.length + 1) cap'], LisR 177 4 (.slice B (zs.length + 1) cap') (zs.length + 1) (grid zs.length 4 (bv (fresh zs) bp) ++ [.slice (some ⟨g, 0, none⟩) m m, .int .u64 1, .int .i64 0, .int .i64 0])] ++ (List.range zs.length).map (fun i => BR (bp i) (fresh zs i).bs)) ++ [ArrR g 5 m (fun _ => .int .u8 0)])) :
    St w0 S0 w (MakeL cb p z c B cap' (upd bp zs.length g) (zs ++ [m])) := by
  have hf := h.fam_snoc (F' := fun i => BR (upd bp zs.length g i) (fresh (zs ++ [m]) i).bs) (LisR.ok _ _ _ _ _) (fun i hi => by
    have : ¬ i = zs.length := by omega
    simp [upd, this, fresh_old zs m hi]) (fun S h => by
    show BR (upd bp zs.length g zs.length) (fresh (zs ++ [m]) zs.length).bs w S
    rw [fresh_new, show upd bp zs.length g zs.length = g by simp [upd]]
    show LisR 5 1 (.slice (some ⟨g, 0, none⟩) (List.replicate m (0 : Int)).length (List.replicate m (0 : Int)).length) (List.replicate m (0 : Int)).length (bys (List.replicate m 0)) w S
    rw [List.length_replicate]
    exact arr_lis_res h (by unfold maxLen; omega) (by simp [bys]) (fun j hj => by simp [bys, hj]))
  have hg : grid (zs.length + 1) 4 (bv (fresh (zs ++ [m])) (upd bp zs.length g)) = grid zs.length 4 (bv (fresh zs) bp) ++ [.slice (some ⟨g, 0, none⟩) m m, .int .u64 1, .int .i64 0, .int .i64 0] := by
    rw [grid_snoc _ _ _ (by omega)]
    congr 1
    · refine grid_like fun j k hj hk => ?_
      have : ¬ j = zs.length := by omega
      rcases (show k = 0 ∨ k = 1 ∨ k = 2 ∨ k = 3 by omega) with rfl | rfl | rfl | rfl <;> simp [bv, upd, this, fresh_old zs m hj]
    · show [bv _ _ zs.length 0, bv _ _ zs.length 1, bv _ _ zs.length 2, bv _ _ zs.length 3] = _
      simp [bv, upd, fresh_new]
  unfold MakeL
  rw [show (zs ++ [m]).length = zs.length + 1 by simp, hg]
  exact hf
theorem new_yes (rd : RdM w A n 2 V) (hV : Cls V n Z C) (hm : mayC n Z C) :
    Calls Tryz.prog 31 #[.slice A n cap] w fun e w' => ∃ p, e = .returned (.tuple #[.pointer (some ⟨p, 0, none⟩), .int .i64 0]) ∧ St w None w' [PoolR p (flatC Z C n).length (fresh (flatC Z C n))] := by
  have hn8 := hm.1
  have hlen := flatC_len hm.2
  have MC := Lib.hid (may_c (cap := cap) rd hV (by unfold maxLen; omega) true (decide_eq_true hm).symm)
  obtain ⟨iU, hiU, hzU, hsU, hbU⟩ := info_parts Tryz.infoU8
  obtain ⟨iB, hiB, hzB, hsB, hbB⟩ := info_parts Tryz.infoBuf
  have RD := Lib.hid rd
  have HV := Lib.hid hV
  have HM := Lib.hid hm
  have HLN := Lib.hid hlen
  clear hm rd hV hlen
  go_enter Tryz.func31, Tryz.ntmps31
  go_wp2_with fail
  refine (looks MC.out (St.begin w)).mono ?_
  rintro e w1 ⟨rfl, s1⟩
  clear MC
  have s2 : St w None _ (HeadL w1.heap.size none 0 (fun _ => 0) []) := (s1.box 184 #[.slice none 0 0]).lis_nil 177 4
  clear s1
  go_wp2_with fail
  generalize w1.heap.size = p at *
  go_loopw [14] (fun i wr => ∃ (k : Nat) (B : Option Addr) (cp : Nat) (bp : Nat → Nat), k ≤ n ∧ i = .int .i64 k ∧ St w None wr (HeadL p B cp bp (flatC Z C k))) (fun i _ => n - (intOf i).toNat)
  case atStart => exact ⟨0, none, 0, fun _ => 0, by omega, rfl, s2⟩
  case round =>
    clear s2
    obtain ⟨k, B, cp, bp, hk, rfl, sr⟩ := hrel
    by_cases hlt : k < n
    · obtain ⟨v0, v1, -, -⟩ := HV.out k hlt
      obtain ⟨ib, off, rfl, e0, e1⟩ := RD.out.at2 sr.below hlt
      rw [v0] at e0
      rw [v1] at e1
      obtain ⟨o1, o2, o3, o4⟩ := HM.out.2 k hlt
      have o0 : 0 ≤ Z k := by
        have : 0 ≤ prevZ Z k := by
          cases k with
          | zero => exact Int.le_refl _
          | succ k =>
            have h := (HM.out.2 k (by omega)).1
            show 0 ≤ Z k
            have h0 : 0 ≤ prevZ Z k := by
              have : ∀ j, j ≤ k → 0 ≤ prevZ Z j := by
                intro j
                induction j with
                | zero => intro _; exact Int.le_refl _
                | succ j ih => intro hj; have h1 := ih (by omega); have h2 := (HM.out.2 j (by omega)).1; show 0 ≤ Z j; omega
              exact this k (Nat.le_refl _)
            omega
        omega
      have hl1 := HLN.out k hk
      have hl2 := HLN.out (k + 1) (by omega)
      have HF := Lib.hid (show flatC Z C (k + 1) = flatC Z C k ++ List.replicate (C k).toNat (Z k).toNat from rfl)
      rw [HF.out] at hl2
      generalize flatC Z C k = zs at *
      obtain ⟨M, hM⟩ := Int.eq_ofNat_of_zero_le o0
      obtain ⟨q, hq⟩ := Int.eq_ofNat_of_zero_le (show 0 ≤ C k by omega)
      rw [hM] at e0 o2 HF hl2
      rw [hq] at e1 o4 HF hl2
      rw [Int.toNat_natCast, Int.toNat_natCast] at HF hl2
      have s3 : St w None _ (MakeL wr.heap.size p M q B cp bp zs) := sr.front 186 #[.int .i64 M, .int .i64 q]
      have f0 := (s3.blk 0 rfl).two
      obtain ⟨f0, f1⟩ := f0
      clear sr v0 v1 o1 o3 hM hq o0
      go_wp2_with fail
      clear f0 f1 e0 e1
      generalize wr.heap.size = cb at *
      go_loopw [20] (fun i wr => ∃ (m : Nat) (B : Option Addr) (cp : Nat) (bp : Nat → Nat), m ≤ q ∧ i = .int .i64 m ∧ St w None wr (MakeL cb p M q B cp bp (zs ++ List.replicate m M))) (fun i _ => q - (intOf i).toNat)
      case atStart => exact ⟨0, B, cp, bp, by omega, rfl, by simpa using s3⟩
      case round =>
        clear s3
        obtain ⟨m, B, cp, bp, hmq, rfl, sr⟩ := hrel
        by_cases hl3 : m < q
        · have HR := Lib.hid (show zs ++ List.replicate (m + 1) M = (zs ++ List.replicate m M) ++ [M] by rw [List.append_assoc, ← List.replicate_succ'])
          have hyl : (zs ++ List.replicate m M).length ≤ 800 := by
            simp at hl2 ⊢
            omega
          generalize zs ++ List.replicate m M = ys at *
          have mk := fun W => run_make_rowN (P := Tryz.prog) 62 5 iU (.int .u8 0) Tryz.underlying62 hiU hzU rfl hsU .i64 .i64 M (by rw [hbU]; omega) (by omega) W
          obtain ⟨c0, c1⟩ := (sr.blk 0 rfl).two
          have p0 : wr.cell? ⟨p, 0, none⟩ = some (.slice B ys.length cp) := (sr.blk 1 rfl).one
          have S3 := Lib.hid (((sr.box_arr 5 (madeCells #[.int .u8 0] M) M (fun _ => .int .u8 0) (by simp [madeCells]) (fun i hi => by simp [madeCells, hi, Nat.mod_one])).alloc (.cells #[.slice (some ⟨wr.heap.size, 0, none⟩) M M, .int .u64 1, .int .i64 0, .int .i64 0] 177)).drew)
          have R3 := Lib.hid (show Rds ((wr.alloc (.cells (madeCells #[.int .u8 0] M) 5)).alloc (.cells #[.slice (some ⟨wr.heap.size, 0, none⟩) M M, .int .u64 1, .int .i64 0, .int .i64 0] 177)).drew (some ⟨wr.heap.size + 1, 0, none⟩) 1 4 [.slice (some ⟨wr.heap.size, 0, none⟩) M M, .int .u64 1, .int .i64 0, .int .i64 0] by
            have hb := Blk.new (wr.alloc (.cells (madeCells #[.int .u8 0] M) 5)) 177 #[.slice (some ⟨wr.heap.size, 0, none⟩) M M, .int .u64 1, .int .i64 0, .int .i64 0]
            rw [show (wr.alloc (.cells (madeCells #[.int .u8 0] M) 5)).heap.size = wr.heap.size + 1 by simp] at hb
            refine ⟨rfl, Or.inr ⟨_, _, rfl, fun j u hu => ?_⟩⟩
            rw [Nat.zero_add]
            refine (hb.cell j).trans ?_
            simpa using hu)
          have p1 := cell_alloc p0 (.cells (madeCells #[.int .u8 0] M) 5)
          have p2 := cell_alloc p1 (.cells #[.slice (some ⟨wr.heap.size, 0, none⟩) M M, .int .u64 1, .int .i64 0, .int .i64 0] 177)
          clear sr
          go_wp2_with fail
          go_region_law (refine step_lis (by rfl) _ _ _ (by rfl) 177 iB (.agg #[.slice none 0 0, .int .u64 0, .int .i64 0, .int .i64 0]) 4 48 Tryz.underlying182 hiB hzB hsB hbB (by rfl) (by omega) (.slice B ys.length cp) ys.length (grid ys.length 4 (bv (fresh ys) bp)) (by rfl) (S3.out.lis 2 rfl) _ 1 1 [.slice (some ⟨wr.heap.size, 0, none⟩) M M, .int .u64 1, .int .i64 0, .int .i64 0] (by rfl) R3.out (by simp [Value.oneCell']) (by unfold maxLen; omega) (by omega) ?_; intro B5 c5 w5 hl hg hat; have s5 := S3.out.lis_put 2 rfl hl hg hat; have f5 := (s5.blk 1 rfl).frozen 0; have q5 := (s5.blk 1 rfl).one; have S5 := Lib.hid s5; clear s5 hl hg hat)
          all_goals
            have X6 := Lib.hid (make_snoc (by omega) (S5.out.set_ 1 rfl 0 (.slice B5 (ys.length + 1) c5)))
            clear S5
            go_wp2_with fail
            go_roundw
            case rel => exact ⟨m + 1, _, _, _, by omega, by go_num, by rw [HR.out]; exact X6.out⟩
            case measure => simp [intOf]; omega
        · obtain rfl : m = q := by omega
          have s7 : St w None _ (HeadL p B cp bp (zs ++ List.replicate m M)) := sr.drop 0 (by simp [MakeL])
          rw [← HF.out] at s7
          go_wp2_with fail
          go_roundw
          case rel => exact ⟨k + 1, B, cp, bp, by omega, by go_num, s7⟩
          case measure => simp [intOf]; omega
    · obtain rfl : k = n := by omega
      go_wp2_with fail
      go_ret2
      obtain ⟨A', cap', hv, -, -, -, hcell⟩ := sr.lis_cells 1 rfl
      injection hv with hv1 _ hv2
      subst hv1 hv2
      have hpos := flatC_pos HM.out
      obtain ⟨bb, off, rfl, -⟩ := hcell.resolve_left (by omega)
      refine ⟨p, rfl, ?_⟩
      have h := (sr.fold (A := []) (R := PoolR p (flatC Z C k).length (fresh (flatC Z C k))) (PoolR.ok _ _ _) fun S h => ⟨bb, off, cp, bp, h⟩)
      exact h
theorem new_no (rd : RdM w A n 2 V) (hV : Cls V n Z C) (hn : n ≤ maxLen) (hm : ¬ mayC n Z C) :
    Calls Tryz.prog 31 #[.slice A n cap] w fun e w' => e = .returned (.tuple #[.pointer none, .int .i64 1]) ∧ Below w.heap.size w w' := by
  have MC := Lib.hid (may_c (cap := cap) rd hV hn false (decide_eq_false hm).symm)
  clear rd hV hm
  go_enter Tryz.func31, Tryz.ntmps31
  go_wp2_with fail
  refine MC.out.mono ?_
  rintro e w1 ⟨rfl, hb⟩
  go_wp2_with fail
  go_ret2
  exact ⟨rfl, hb⟩
theorem new_o (H : St w0 S0 w L) (rd : RdM w A n 2 V) (hV : Cls V n Z C) (hm : mayC n Z C) :
    Calls Tryz.prog 31 #[.slice A n cap] w fun e w' => ∃ p, e = .returned (.tuple #[.pointer (some ⟨p, 0, none⟩), .int .i64 0]) ∧ St w0 S0 w' (L ++ [PoolR p (flatC Z C n).length (fresh (flatC Z C n))]) :=
  (new_yes rd hV hm).mono fun e w' ⟨p, he, hs⟩ => by
    obtain ⟨S', y1, y2, y3⟩ := hs.made
    exact ⟨p, he, H.more y3 y1 y2⟩
end
end
section
set_option linter.unusedVariables false
set_option maxRecDepth 100000
set_option maxHeartbeats 1000000
theorem Via.le {G : Int} {n : Nat} {st st' : Nat → Buf} {x g c : Int} {B : Buf → Int → Buf → Prop} (h : Via n st x g B c st') (ok : POK n st G) {G' : Int} (hg : G ≤ G') (hG : G' < 9223372036854775807) (hB : ∀ b c b', b.ok G → b.owner ≠ 0 → B b c b' → b'.ok G') : POK n st' G' := by
  refine ⟨ok.n1, ok.n2, hG, fun i hi => ?_⟩
  have up : ∀ j, j < n → (st j).ok G' := fun j hj => by
    obtain ⟨⟨a1, a2⟩, a3⟩ := ok.b j hj
    exact ⟨⟨a1, by omega⟩, a3⟩
  rcases h with ⟨-, -, rfl⟩ | ⟨j, b', hj, -, ho, -, hb, rfl⟩
  · exact up i hi
  · by_cases e : i = j
    · rw [e, updB_self]; exact hB _ _ _ (ok.b j hj) ho hb
    · rw [updB_ne _ _ e]; exact up i hi
section
variable {w0 w : World} {S S0 : Nat → Prop} {N L : List Res} {p n : Nat} {st st' : Nat → Buf} {G x g c : Int}
theorem _root_.Go.Proofs.YtdjhpdacglojaaaGreat.St.call1 {P : Program} {f : FuncId} {args : Array Value} {R R' : Res} {Post : Ending → Prop} (ho : Ok R') (h : St w0 S0 w L) (i : Nat) (hi : L[i]? = some R) (c : ∀ S, R w S → Calls P f args w fun e w' => Post e ∧ ∃ S', R' w' S' ∧ Did S S' w w') :
    Calls P f args w fun e w' => Post e ∧ St w0 S0 w' (L.set i R') := by
  obtain ⟨S, hs, hd⟩ := h
  have hl := (Star.ok L).lt hs
  obtain ⟨T, hT, hok, hTS, hput⟩ := hs.split hi
  refine (c T hT).mono fun e w' ⟨he, T', hT', hdid⟩ => ⟨he, ?_⟩
  refine ⟨_, hput w' R' T' ho hT' (fun b hb hn => hdid.block b (hl b hb) hn) (fun b hb => (hdid.own b hb).imp id fun h => fun h2 => by have := hl b h2; omega), ?_⟩
  exact ⟨hdid.os.trans hd.os, hdid.tape.trans hd.tape, hdid.output.trans hd.output, Nat.le_trans hd.size hdid.size,
    fun k hk hn => (hdid.block k (Nat.lt_of_lt_of_le hk hd.size) fun hkT => by rcases hd.own k (hTS k hkT) with h | h; exact hn h; omega).trans (hd.block k hk hn),
    fun b hb => by
      rcases hb with ⟨h1, _⟩ | h1
      · exact hd.own b h1
      · rcases hdid.own b h1 with h2 | h2
        · exact hd.own b (hTS b h2)
        · exact Or.inr (Nat.le_trans hd.size h2)⟩
theorem get_o (H : St w0 S0 w L) (i : Nat) (hi : L[i]? = some (PoolR p n st)) (ok : POK n st G) {z : Int} (h : GetP n st z x g c st') :
    Calls Tryz.prog 37 #[.pointer (some ⟨p, 0, none⟩), .int .i64 z] w fun e w' => e = .returned (.tuple #[.agg #[.int .i64 x, .int .u64 g], .int .i64 c]) ∧ St w0 S0 w' (L.set i (PoolR p n st')) :=
  H.call1 (PoolR.ok _ _ _) i hi fun S hp => get_c ok h w S hp
theorem give_o (H : St w0 S0 w L) (i : Nat) (hi : L[i]? = some (PoolR p n st)) (ok : POK n st G) {a z : Int} (h : Via n st x g (GiveB a z) c st') :
    Calls Tryz.prog 49 #[.pointer (some ⟨p, 0, none⟩), .agg #[.int .i64 x, .int .u64 g], .int .i64 a, .int .i64 z] w fun e w' => e = .returned (.int .i64 c) ∧ St w0 S0 w' (L.set i (PoolR p n st')) :=
  H.call1 (PoolR.ok _ _ _) i hi fun S hp => give_c ok h w S hp
theorem write_o (H : St w0 S0 w L) (i : Nat) (hi : L[i]? = some (PoolR p n st)) (ok : POK n st G) {by' at' : Int} {xs : List Int} (h : Via n st x g (WriteB by' at' xs) c st') {A : Option Addr} {cp : Nat} (hx : xs.length ≤ maxLen) (hr : Rds w A xs.length 1 (bys xs)) :
    Calls Tryz.prog 156 #[.pointer (some ⟨p, 0, none⟩), .agg #[.int .i64 x, .int .u64 g], .int .i64 by', .int .i64 at', .slice A xs.length cp] w fun e w' => e = .returned (.int .i64 c) ∧ St w0 S0 w' (L.set i (PoolR p n st')) :=
  H.call1 (PoolR.ok _ _ _) i hi fun S hp => write_c ok h hx w S hp hr
theorem owner_o (H : St w0 S0 w L) (i : Nat) (hi : L[i]? = some (PoolR p n st)) (ok : POK n st G) {o r : Int} (h : OwnerP n st x g o r c) :
    Calls Tryz.prog 42 #[.pointer (some ⟨p, 0, none⟩), .agg #[.int .i64 x, .int .u64 g]] w fun e w' => e = .returned (.tuple #[.int .i64 o, .int .i64 r, .int .i64 c]) ∧ St w0 S0 w' (L.set i (PoolR p n st)) :=
  H.call1 (PoolR.ok _ _ _) i hi fun S hp => owner_c ok h w S hp
theorem size_o (H : St w0 S0 w L) (i : Nat) (hi : L[i]? = some (PoolR p n st)) (ok : POK n st G) {z : Int} (h : SizeP n st x g z c) :
    Calls Tryz.prog 167 #[.pointer (some ⟨p, 0, none⟩), .agg #[.int .i64 x, .int .u64 g]] w fun e w' => e = .returned (.tuple #[.int .i64 z, .int .i64 c]) ∧ St w0 S0 w' (L.set i (PoolR p n st)) :=
  H.call1 (PoolR.ok _ _ _) i hi fun S hp => size_c ok h w S hp
theorem read_o (H : St w0 S0 w L) (i : Nat) (hi : L[i]? = some (PoolR p n st)) (ok : POK n st G) {at' m : Int} {xs : List Int} (h : ReadP n st x g at' m xs c) :
    Calls Tryz.prog 27 #[.pointer (some ⟨p, 0, none⟩), .agg #[.int .i64 x, .int .u64 g], .int .i64 at', .int .i64 m] w fun e w' => ∃ B cp, e = .returned (.tuple #[.slice B xs.length cp, .int .i64 c]) ∧ St w0 S0 w' (L.set i (PoolR p n st) ++ [LisR 5 1 (.slice B xs.length cp) xs.length (bys xs)]) :=
  ((read_m ok h).on H i hi).mono fun e w' ⟨R', N, hp, hs⟩ => by
    obtain ⟨hR, B, cp, he, hN⟩ := hp
    subst hR hN
    exact ⟨B, cp, he, hs⟩
theorem rdm_blk {t : TypeId} {q : Nat} {cs : Array Value} {k m : Nat} (h : Blk w q t cs) (hs : cs.size = k * m) : RdM w (some ⟨q, 0, none⟩) k m (fun j i => cs.getD (j * m + i) (.bool false)) := by
  intro _
  refine ⟨q, 0, rfl, h.lt, fun j hj i hi => ?_⟩
  rw [Nat.zero_add, h.cell]
  have : j * m + i < k * m := by
    have := Nat.mul_le_mul_right m (show j + 1 ≤ k by omega)
    rw [Nat.add_mul] at this
    omega
  simp [Array.getD, hs, this]
end
end
end po
end Go.Proofs.YtdjhpdacglojaaaGreat
