/- Layer 3: a heap in memory; who is less, and changing places. -/
import Derived.Test.YtncoeoccdimgoaaRows
import Derived.Test.YtncoeoccdimgoaaHeapM
import Derived.Test.YtncoeoccdimgoaaMore
import Derived.WalkLawsBesides
import Derived.WalkSpells
import Derived.BigQuiet
import Derived.RegionTactic
import Derived.LoopTactic
import Derived.Outline
import Derived.WalkKit
import Derived.Lib.Hide
import Derived.IntWalk
import Derived.WalkMore
import Derived.StillTailTactics
import Derived.Deep.DeepCutAuto
namespace Go.Proofs.Ytncoeoccdimgoaa
open Go.RowKit
set_option linter.unusedVariables false
set_option maxRecDepth 100000
set_option maxHeartbeats 1000000
/-- A member's cells. -/
def hv (a : Nat → Mem) (j : Nat) : Nat → Value
  | 0 => .int .i64 ((a j).1 : Nat)
  | _ => .int .u64 (a j).2
def HL (h b off c pb n k : Nat) (a : Nat → Mem) (pl : Nat → Int) : List Res :=
  [BlkR h 55 #[.slice (some ⟨b, off, none⟩) k c, .slice (some ⟨pb, 0, none⟩) n n], LisR 58 2 (.slice (some ⟨b, off, none⟩) k c) k (grid k 2 (hv a)), ArrR pb 3 n (fun i => .int .i64 (pl i))]
section
variable {w0 w : World} {S S0 : Nat → Prop} {N L : List Res} {h b off c pb n k : Nat} {a : Nat → Mem} {pl : Nat → Int}
theorem heap_at (s : St w0 S0 w (HL h b off c pb n k a pl ++ N)) {i : Nat} (hi : i < k) : w.cell? ⟨b, off + i * 2, none⟩ = some (.int .i64 ((a i).1 : Nat)) ∧ w.cell? ⟨b, off + i * 2 + 1, none⟩ = some (.int .u64 (a i).2) := by
  have ls : Lis w 58 2 (.slice (some ⟨b, off, none⟩) k c) k (grid k 2 (hv a)) := s.lis 1 rfl
  rcases ls.reads.2 with h | ⟨g, o, ha, hc⟩
  · omega
  · obtain ⟨rfl, rfl⟩ : b = g ∧ off = o := by simpa using ha
    have h0 := hc _ _ (grid_at (hv a) hi (show 0 < 2 by omega))
    have h1 := hc _ _ (grid_at (hv a) hi (show 1 < 2 by omega))
    exact ⟨h0, by rw [Nat.add_assoc]; exact h1⟩
theorem heap_cap (s : St w0 S0 w (HL h b off c pb n k a pl ++ N)) : k ≤ c ∧ c ≤ maxLen := by
  have ls : Lis w 58 2 (.slice (some ⟨b, off, none⟩) k c) k (grid k 2 (hv a)) := s.lis 1 rfl
  obtain ⟨A', c', hv, h1, h2⟩ := ls.shape
  injection hv with _ _ hv
  subst hv; exact ⟨h1, h2⟩
theorem heap_h (s : St w0 S0 w (HL h b off c pb n k a pl ++ N)) : w.cell? ⟨h, 0, none⟩ = some (.slice (some ⟨b, off, none⟩) k c) ∧ w.cell? ⟨h, 1, none⟩ = some (.slice (some ⟨pb, 0, none⟩) n n) := (s.blk 0 rfl).two
theorem heap_frozen (s : St w0 S0 w (HL h b off c pb n k a pl ++ N)) (o : Nat) : w.frozen? ⟨b, o, none⟩ = false := by
  have ls : Lis w 58 2 (.slice (some ⟨b, off, none⟩) k c) k (grid k 2 (hv a)) := s.lis 1 rfl
  exact ls.frozen o
theorem heap_pl (s : St w0 S0 w (HL h b off c pb n k a pl ++ N)) {i : Nat} (hi : i < n) : w.cell? ⟨pb, i, none⟩ = some (.int .i64 (pl i)) := s.arr_cell 2 rfl hi
theorem heap_pfrozen (s : St w0 S0 w (HL h b off c pb n k a pl ++ N)) (o : Nat) : w.frozen? ⟨pb, o, none⟩ = false := s.arr_frozen 2 rfl o
/-- A member is laid. -/
theorem heap_lay (s : St w0 S0 w (HL h b off c pb n k a pl ++ N)) {p : Nat} (hp : p < k) (x : Mem) : St w0 S0 ((w.setCell ⟨b, off + p * 2, none⟩ (.int .i64 (x.1 : Nat))).setCell ⟨b, off + p * 2 + 1, none⟩ (.int .u64 x.2)) (HL h b off c pb n k (updm a p x) pl ++ N) := by
  have h1 := s.lis_set 1 rfl (k := p * 2) (by omega) (.int .i64 (x.1 : Nat))
  have h2 := h1.lis_set 1 rfl (k := p * 2 + 1) (by omega) (.int .u64 x.2)
  have e : ((grid k 2 (hv a)).set (p * 2) (.int .i64 (x.1 : Nat))).set (p * 2 + 1) (.int .u64 x.2) = grid k 2 (hv (updm a p x)) := by
    have := grid_set (hv a) (.int .i64 (x.1 : Nat)) hp (show 0 < 2 by omega)
    rw [Nat.add_zero] at this
    rw [this, grid_set _ _ hp (show 1 < 2 by omega)]
    refine grid_like fun j q hj hq => ?_
    rcases (show q = 0 ∨ q = 1 by omega) with rfl | rfl <;> by_cases e : j = p <;> simp [upd2, hv, updm, e]
  have h2' := h2
  simp only [HL, List.cons_append, List.set_cons_succ, List.set_cons_zero] at h2' ⊢
  rw [e, ← Nat.add_assoc] at h2'
  exact h2'
theorem heap_place (s : St w0 S0 w (HL h b off c pb n k a pl ++ N)) {id : Nat} (hp : id < n) (x : Int) : St w0 S0 (w.setCell ⟨pb, id, none⟩ (.int .i64 x)) (HL h b off c pb n k a (updp pl id x) ++ N) := by
  have h1 := s.arr_set 2 rfl (k := id) hp (.int .i64 x)
  have h2 := h1.arr_like 2 rfl (V' := fun i => .int .i64 (updp pl id x i)) (fun j hj => by by_cases e : j = id <;> simp [updp, e])
  exact h2
theorem two_alloc {p : Addr} {v : Value} (h : w.cell? p = some v) (t : TypeId) : (∀ c, (w.alloc (.cells c t)).cell? p = some v) ∧ ∀ c d, ((w.alloc (.cells c t)).alloc (.cells d t)).cell? p = some v :=
  ⟨fun _ => cell_alloc h _, fun _ _ => cell_alloc (cell_alloc h _) _⟩
theorem less_c (s : Star (HL h b off c pb n k a pl) w S) {i j : Nat} (hi : i < k) (hj : j < k) (r : Bool) (hr : r = decide (hlt (a i) (a j))) :
    Calls Try.prog 30 #[.pointer (some ⟨h, 0, none⟩), .int .i64 (i : Nat), .int .i64 (j : Nat)] w fun e w' => e = .returned (.bool r) ∧ Below w.heap.size w w' := by
  have s0 : St w S w (HL h b off c pb n k a pl ++ []) := St.start (by rw [List.append_nil]; exact s)
  have hh := (heap_h s0).1
  have ci := heap_at s0 hi
  have cj := heap_at s0 hj
  have hc := heap_cap s0
  unfold maxLen at hc
  obtain ⟨ci0, ci1⟩ := ci
  obtain ⟨cj0, cj1⟩ := cj
  clear s0 s
  have HR := Lib.hid hr
  clear hr
  generalize a i = x at *
  generalize a j = y at *
  obtain ⟨x1, x2⟩ := x
  obtain ⟨y1, y2⟩ := y
  dsimp only at ci0 ci1 cj0 cj1
  have bi : (i : Int) < (k : Int) := by omega
  have bj : (j : Int) < (k : Int) := by omega
  go_enter Try.func30, Try.ntmps30
  go_wp2_with fail
  obtain ⟨A10, A11⟩ := two_alloc hh 58
  obtain ⟨A20, A21⟩ := two_alloc ci0 58
  obtain ⟨A30, A31⟩ := two_alloc ci1 58
  obtain ⟨A40, A41⟩ := two_alloc cj0 58
  obtain ⟨A50, A51⟩ := two_alloc cj1 58
  have AC := Lib.hid ((((Below.refl w.heap.size w).alloc (Nat.le_refl _) (.cells #[.int .i64 (x1 : Nat), .int .u64 x2] 58)).alloc (by simp) (.cells #[.int .i64 (y1 : Nat), .int .u64 y2] 58)).drew)
  have AD := Lib.hid ((((Below.refl w.heap.size w).alloc (Nat.le_refl _) (.cells #[.int .i64 (y1 : Nat), .int .u64 y2] 58)).alloc (by simp) (.cells #[.int .i64 (x1 : Nat), .int .u64 x2] 58)).drew)
  go_region
  all_goals
    clear A10 A11 A20 A21 A30 A31 A40 A41 A50 A51 hh ci0 ci1 cj0 cj1
    rcases Int.lt_trichotomy x2 y2 with hl | hl | hl
    · have d1 : decide (x2 < y2) = true := decide_eq_true hl
      have HK := Lib.hid (show decide (hlt (x1, x2) (y1, y2)) = true from decide_eq_true (Or.inl hl))
      clear hl
      go_wp2_with fail
      go_ret
      exact ⟨by rw [HR.out, HK.out]; rfl, by first | exact AC.out | exact AD.out⟩
    · subst hl
      have d1 : decide (x2 < x2) = false := decide_eq_false (by omega)
      have d2 : (x2 == x2) = true := beq_self_eq_true x2
      by_cases hi : x1 < y1
      · have d3 : decide ((x1 : Int) < (y1 : Int)) = true := decide_eq_true (by omega)
        have d3' : decide (x1 < y1) = true := decide_eq_true hi
        have HK := Lib.hid (show decide (hlt (x1, x2) (y1, x2)) = true from decide_eq_true (Or.inr ⟨rfl, hi⟩))
        clear hi
        go_wp2_with fail
        go_ret
        exact ⟨by rw [HR.out, HK.out]; rfl, by first | exact AC.out | exact AD.out⟩
      · have d3 : decide ((x1 : Int) < (y1 : Int)) = false := decide_eq_false (by omega)
        have d3' : decide (x1 < y1) = false := decide_eq_false hi
        have HK := Lib.hid (show decide (hlt (x1, x2) (y1, x2)) = false from decide_eq_false (by unfold hlt; dsimp only; omega))
        clear hi
        go_wp2_with fail
        go_ret
        exact ⟨by rw [HR.out, HK.out]; rfl, by first | exact AC.out | exact AD.out⟩
    · have d1 : decide (x2 < y2) = false := decide_eq_false (by omega)
      have d2 : (x2 == y2) = false := beq_eq_false_iff_ne.2 (by omega)
      have HK := Lib.hid (show decide (hlt (x1, x2) (y1, y2)) = false from decide_eq_false (by unfold hlt; dsimp only; omega))
      clear hl
      go_wp2_with fail
      go_ret
      exact ⟨by rw [HR.out, HK.out]; rfl, by first | exact AC.out | exact AD.out⟩
/-- A member is laid, and where it stands. -/
theorem lay_c (s : Star (HL h b off c pb n k a pl) w S) {p : Nat} (hp : p < k) (x : Mem) (hx : x.1 < n) (hn : n ≤ 1000) :
    Calls Try.prog 24 #[.pointer (some ⟨h, 0, none⟩), .int .i64 (p : Nat), .agg #[.int .i64 (x.1 : Nat), .int .u64 x.2]] w fun e w' => e = .returned (.tuple #[]) ∧ ∃ S', Star (HL h b off c pb n k (updm a p x) (updp pl x.1 p)) w' S' ∧ Did S S' w w' := by
  have s0 : St w S w (HL h b off c pb n k a pl ++ []) := St.start (by rw [List.append_nil]; exact s)
  have s1 : St w S (w.alloc (.cells #[.int .i64 (x.1 : Nat), .int .u64 x.2] 58)) (HL h b off c pb n k a pl ++ [BlkR w.heap.size 58 #[.int .i64 (x.1 : Nat), .int .u64 x.2]]) := by
    have := s0.box 58 #[.int .i64 (x.1 : Nat), .int .u64 x.2]
    rwa [List.append_nil] at this
  have q0 := (heap_h s1).1
  have q1 := (heap_at s1 hp).1
  have q2 := (heap_at s1 hp).2
  have f0 := heap_frozen s1 (off + p * 2)
  have f1 := heap_frozen s1 (off + p * 2 + 1)
  have qx := (s1.blk 3 rfl).two
  obtain ⟨qx0, qx1⟩ := qx
  have S1 := Lib.hid s1
  have hc := heap_cap s1
  unfold maxLen at hc
  clear s0 s s1
  have bp : (p : Int) < (k : Int) := by omega
  have bx : (x.1 : Int) < (n : Int) := by omega
  go_enter Try.func24, Try.ntmps24
  go_wp2_with fail
  go_region
  have s2 := heap_lay S1.out hp x
  have r0 := (heap_h s2).2
  have r1 := (s2.blk 3 rfl).two.1
  have r2 := heap_pl s2 hx
  have r3 := heap_pfrozen s2 x.1
  have S2 := Lib.hid s2
  clear q0 q1 q2 f0 f1 qx0 qx1 S1 s2
  go_wp2_with fail
  go_region
  have s3 := heap_place S2.out hx (p : Nat)
  have S3 := Lib.hid (s3.take 3).drew.drew
  clear r0 r1 r2 r3 S2 s3
  go_end0
  exact ⟨rfl, S3.out.fin fun S' h => h⟩
end
end Go.Proofs.Ytncoeoccdimgoaa
