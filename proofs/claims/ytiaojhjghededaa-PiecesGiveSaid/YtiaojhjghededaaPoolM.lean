/- Layer 7: a pool in memory. -/
import Derived.Test.YtiaojhjghededaaBys
import Derived.Test.YtiaojhjghededaaGrid
namespace Go.Proofs.Ytiaojhjghededaa
open Go.RowKit
set_option linter.unusedVariables false
set_option maxRecDepth 100000
set_option maxHeartbeats 400000
/-- A buffer. -/
structure Buf where
  gen : Int
  owner : Int
  refs : Int
  bs : List Int
def Buf.ok (G : Int) (b : Buf) : Prop := (0 ≤ b.gen ∧ b.gen ≤ G) ∧ (0 ≤ b.owner ∧ b.owner ≤ 3) ∧ (0 ≤ b.refs ∧ b.refs ≤ 100) ∧ b.bs.length ≤ 65536
/-- A pool that may be. -/
structure POK (n : Nat) (st : Nat → Buf) (G : Int) : Prop where
  n1 : 1 ≤ n
  n2 : n ≤ 800
  g : G < 9223372036854775807
  b : ∀ i, i < n → (st i).ok G
/-- A row of bytes. -/
abbrev BR (b : Nat) (bs : List Int) : Res := LisR 5 1 (.slice (some ⟨b, 0, none⟩) bs.length bs.length) bs.length (bys bs)
/-- A buffer's cells. -/
def bv (st : Nat → Buf) (bp : Nat → Nat) (j : Nat) : Nat → Value
  | 0 => .slice (some ⟨bp j, 0, none⟩) (st j).bs.length (st j).bs.length
  | 1 => .int .u64 (st j).gen
  | 2 => .int .i64 (st j).owner
  | _ => .int .i64 (st j).refs
def PoolL (p bb off cap : Nat) (bp : Nat → Nat) (n : Nat) (st : Nat → Buf) : List Res :=
  [BlkR p 70 #[.slice (some ⟨bb, off, none⟩) n cap], LisR 72 4 (.slice (some ⟨bb, off, none⟩) n cap) n (grid n 4 (bv st bp))] ++ (List.range n).map (fun i => BR (bp i) (st i).bs)
def PoolR (p n : Nat) (st : Nat → Buf) : Res := fun w S => ∃ bb off cap bp, Star (PoolL p bb off cap bp n st) w S
theorem PoolR.ok (p n : Nat) (st : Nat → Buf) : Ok (PoolR p n st) :=
  ⟨fun ⟨bb, off, cap, bp, h⟩ b hb => (Star.ok _).lt h b hb, fun ⟨bb, off, cap, bp, h⟩ hk => ⟨bb, off, cap, bp, (Star.ok _).frame h hk⟩⟩
section
variable {w0 w : World} {S0 : Nat → Prop} {N : List Res} {p bb off cap n : Nat} {bp : Nat → Nat} {st : Nat → Buf}
theorem pool_p (s : St w0 S0 w (PoolL p bb off cap bp n st ++ N)) : w.cell? ⟨p, 0, none⟩ = some (.slice (some ⟨bb, off, none⟩) n cap) := (s.blk 0 rfl).one
theorem pool_lis (s : St w0 S0 w (PoolL p bb off cap bp n st ++ N)) : Lis w 72 4 (.slice (some ⟨bb, off, none⟩) n cap) n (grid n 4 (bv st bp)) := s.lis 1 rfl
theorem pool_at (s : St w0 S0 w (PoolL p bb off cap bp n st ++ N)) {i k : Nat} (hi : i < n) (hk : k < 4) : w.cell? ⟨bb, off + i * 4 + k, none⟩ = some (bv st bp i k) := by
  rcases (pool_lis s).reads.2 with h | ⟨g, o, ha, hc⟩
  · omega
  · obtain ⟨rfl, rfl⟩ : bb = g ∧ off = o := by simpa using ha
    rw [Nat.add_assoc]
    exact hc _ _ (grid_at (bv st bp) hi hk)
theorem pool_four (s : St w0 S0 w (PoolL p bb off cap bp n st ++ N)) {i : Nat} (hi : i < n) : w.cell? ⟨bb, off + i * 4, none⟩ = some (.slice (some ⟨bp i, 0, none⟩) (st i).bs.length (st i).bs.length) ∧ w.cell? ⟨bb, off + i * 4 + 1, none⟩ = some (.int .u64 (st i).gen) ∧ w.cell? ⟨bb, off + i * 4 + 2, none⟩ = some (.int .i64 (st i).owner) ∧ w.cell? ⟨bb, off + i * 4 + 3, none⟩ = some (.int .i64 (st i).refs) :=
  ⟨pool_at s hi (k := 0) (by omega), pool_at s hi (k := 1) (by omega), pool_at s hi (k := 2) (by omega), pool_at s hi (k := 3) (by omega)⟩
theorem pool_frozen (s : St w0 S0 w (PoolL p bb off cap bp n st ++ N)) (o : Nat) : w.frozen? ⟨bb, o, none⟩ = false := (pool_lis s).frozen o
theorem pool_idx (hi : n > 0) {i : Nat} (h : i < n) : (PoolL p bb off cap bp n st ++ N)[2 + i]? = some (BR (bp i) (st i).bs) := by
  rw [List.getElem?_append_left (by simp [PoolL]; omega)]
  exact fam_at [_, _] _ h
theorem pool_box (s : St w0 S0 w (PoolL p bb off cap bp n st ++ N)) (j : Nat) {g : Nat} {t : TypeId} {cs : Array Value} (h : N[j]? = some (BlkR g t cs)) : Blk w g t cs :=
  s.blk ((PoolL p bb off cap bp n st).length + j) (by rw [List.getElem?_append_right (by omega), Nat.add_sub_cancel_left]; exact h)
theorem pool_box_set (s : St w0 S0 w (PoolL p bb off cap bp n st ++ N)) (j : Nat) {g : Nat} {t : TypeId} {cs : Array Value} (h : N[j]? = some (BlkR g t cs)) (k : Nat) (u : Value) : St w0 S0 (w.setCell ⟨g, k, none⟩ u) (PoolL p bb off cap bp n st ++ N.set j (BlkR g t (cs.setIfInBounds k u))) := by
  have := s.set_ ((PoolL p bb off cap bp n st).length + j) (by rw [List.getElem?_append_right (by omega), Nat.add_sub_cancel_left]; exact h) k u
  rwa [List.set_append_right _ _ (by omega), Nat.add_sub_cancel_left] at this
/-- A number of a buffer is laid anew. -/
theorem pool_set (s : St w0 S0 w (PoolL p bb off cap bp n st ++ N)) {i k : Nat} (hi : i < n) (hk : k < 4) (u : Value) (st' : Nat → Buf) (hv : ∀ j k', j < n → k' < 4 → upd2 (bv st bp) i k u j k' = bv st' bp j k') (hb : ∀ j, j < n → (st' j).bs = (st j).bs) :
    St w0 S0 (w.setCell ⟨bb, off + i * 4 + k, none⟩ u) (PoolL p bb off cap bp n st' ++ N) := by
  have h := s.lis_set 1 rfl (k := i * 4 + k) (by omega) u
  rw [← Nat.add_assoc, grid_set _ u hi hk, grid_like hv] at h
  have e : (List.range n).map (fun i => BR (bp i) (st i).bs) = (List.range n).map (fun i => BR (bp i) (st' i).bs) := fam_like fun j hj => by rw [hb j hj]
  show St w0 S0 _ ([_, _] ++ (List.range n).map (fun i => BR (bp i) (st' i).bs) ++ N)
  rw [← e]
  exact h
def updB (st : Nat → Buf) (i : Nat) (b : Buf) : Nat → Buf := fun j => if j = i then b else st j
theorem updB_self (st : Nat → Buf) (i : Nat) (b : Buf) : updB st i b i = b := by simp [updB]
theorem updB_ne (st : Nat → Buf) {i j : Nat} (b : Buf) (h : j ≠ i) : updB st i b j = st j := by simp [updB, h]
theorem pool_setg (s : St w0 S0 w (PoolL p bb off cap bp n st ++ N)) {i : Nat} (hi : i < n) (g : Int) :
    St w0 S0 (w.setCell ⟨bb, off + i * 4 + 1, none⟩ (.int .u64 g)) (PoolL p bb off cap bp n (updB st i { st i with gen := g }) ++ N) :=
  pool_set s hi (by omega) _ _ (fun j k hj hk => by
    rcases (show k = 0 ∨ k = 1 ∨ k = 2 ∨ k = 3 by omega) with rfl | rfl | rfl | rfl <;> by_cases e : j = i <;> simp [upd2, bv, updB, e]) (fun j hj => by by_cases e : j = i <;> simp [updB, e])
theorem pool_seto (s : St w0 S0 w (PoolL p bb off cap bp n st ++ N)) {i : Nat} (hi : i < n) (g : Int) :
    St w0 S0 (w.setCell ⟨bb, off + i * 4 + 2, none⟩ (.int .i64 g)) (PoolL p bb off cap bp n (updB st i { st i with owner := g }) ++ N) :=
  pool_set s hi (by omega) _ _ (fun j k hj hk => by
    rcases (show k = 0 ∨ k = 1 ∨ k = 2 ∨ k = 3 by omega) with rfl | rfl | rfl | rfl <;> by_cases e : j = i <;> simp [upd2, bv, updB, e]) (fun j hj => by by_cases e : j = i <;> simp [updB, e])
theorem pool_setr (s : St w0 S0 w (PoolL p bb off cap bp n st ++ N)) {i : Nat} (hi : i < n) (g : Int) :
    St w0 S0 (w.setCell ⟨bb, off + i * 4 + 3, none⟩ (.int .i64 g)) (PoolL p bb off cap bp n (updB st i { st i with refs := g }) ++ N) :=
  pool_set s hi (by omega) _ _ (fun j k hj hk => by
    rcases (show k = 0 ∨ k = 1 ∨ k = 2 ∨ k = 3 by omega) with rfl | rfl | rfl | rfl <;> by_cases e : j = i <;> simp [upd2, bv, updB, e]) (fun j hj => by by_cases e : j = i <;> simp [updB, e])
/-- A buffer's bytes are laid anew. -/
theorem pool_bytes (s : St w0 S0 w (PoolL p bb off cap bp n st ++ N)) {i : Nat} (hi : i < n) {w' : World} (xs : List Int) (hl : xs.length = (st i).bs.length)
    (ht : ∀ T, BR (bp i) (st i).bs w T → BR (bp i) xs w' T ∧ Did T T w w') : St w0 S0 w' (PoolL p bb off cap bp n (updB st i { st i with bs := xs }) ++ N) := by
  have h := s.turn (pool_idx (by omega) hi) (R' := BR (bp i) xs) (LisR.ok _ _ _ _ _) fun T hT => ⟨T, ht T hT⟩
  have e1 : (PoolL p bb off cap bp n st ++ N).set (2 + i) (BR (bp i) xs) = PoolL p bb off cap bp n (updB st i { st i with bs := xs }) ++ N := by
    rw [List.set_append_left _ _ (by simp [PoolL]; omega)]
    congr 1
    have := fam_set [BlkR p 70 #[.slice (some ⟨bb, off, none⟩) n cap], LisR 72 4 (.slice (some ⟨bb, off, none⟩) n cap) n (grid n 4 (bv st bp))] (fun i => BR (bp i) (st i).bs) (BR (bp i) xs) hi
    refine this.trans ?_
    have g1 : grid n 4 (bv st bp) = grid n 4 (bv (updB st i { st i with bs := xs }) bp) := grid_like fun j k hj hk => by
      rcases (show k = 0 ∨ k = 1 ∨ k = 2 ∨ k = 3 by omega) with rfl | rfl | rfl | rfl <;> by_cases e : j = i <;> simp [bv, updB, e, hl]
    rw [g1]
    congr 1
    refine fam_like fun j hj => ?_
    by_cases e : j = i
    · subst e; simp [updB]
    · simp [updB, e]
  rw [← e1]
  exact h
end
end Go.Proofs.Ytiaojhjghededaa
