/- Layer 7: the calls that write and read. -/
import Derived.Test.YtiaojhjghededaaPoolV
namespace Go.Proofs.Ytiaojhjghededaa
open Go.RowKit
set_option linter.unusedVariables false
set_option maxRecDepth 100000
set_option maxHeartbeats 800000
section
variable {w0 w : World} {S S0 : Nat → Prop} {N L : List Res} {p bb off cap n : Nat} {bp : Nat → Nat} {st : Nat → Buf} {G : Int}
theorem arr_lis_res {w : World} {S : Nat → Prop} {g n : Nat} {t : TypeId} {V : Nat → Value} {xs : List Value} (h : ArrR g t n V w S) (hn : n ≤ maxLen) (hl : xs.length = n) (hx : ∀ j, j < n → xs[j]? = some (V j)) : LisR t 1 (.slice (some ⟨g, 0, none⟩) n n) n xs w S := by
  obtain ⟨arr, hb, hs, hv, hS⟩ := h
  refine ⟨⟨by omega, Or.inr ⟨g, 0, n, arr, rfl, hb, Nat.le_refl _, hn, fun _ => by omega, fun j u hu => ?_⟩⟩, fun b => by rw [hS b]; simp [Value.ownBlock, eq_comm]⟩
  have hj : j < n := by
    rcases Nat.lt_or_ge j xs.length with h | h
    · omega
    · rw [List.getElem?_eq_none h] at hu; cases hu
  rw [hx j hj] at hu
  rw [Nat.zero_add, hv j hj, hu]
/-- The last one turned. -/
theorem St.last_turn {w' : World} {R R' : Res} (h : St w0 S0 w (L ++ [R])) (ho : Ok R') (hk : ∀ T, R w T → ∃ T', R' w' T' ∧ Did T T' w w') : St w0 S0 w' (L ++ [R']) := by
  have := h.turn (i := L.length) (R := R) (by simp) ho hk
  simpa using this
theorem St.last_lis {e : TypeId} {v : Value} {n : Nat} {xs : List Value} (h : St w0 S0 w (L ++ [LisR e 1 v n xs])) : Lis w e 1 v n xs := h.lis L.length (by simp)
theorem St.last_copied {w' : World} {e : TypeId} {g o n cap : Nat} {xs ys : List Value} (h : St w0 S0 w (L ++ [LisR e 1 (.slice (some ⟨g, o, none⟩) n cap) n xs])) (hl : Lis w' e 1 (.slice (some ⟨g, o, none⟩) n cap) n ys) (ho : Only g w w') : St w0 S0 w' (L ++ [LisR e 1 (.slice (some ⟨g, o, none⟩) n cap) n ys]) :=
  h.last_turn (LisR.ok _ _ _ _ _) fun T ⟨_, hT⟩ => ⟨T, ⟨hl, hT⟩, Did.of_only ho ((hT g).2 (by simp [Value.ownBlock])) fun b hb => Or.inl hb⟩
theorem pool_boxes4 (s : St w0 S0 w (PoolL p bb off cap bp n st ++ [])) (t1 t2 t3 t4 : TypeId) (c1 c2 c3 c4 : Array Value) :
    St w0 S0 ((((w.alloc (.cells c1 t1)).alloc (.cells c2 t2)).alloc (.cells c3 t3)).alloc (.cells c4 t4)) (PoolL p bb off cap bp n st ++ [BlkR w.heap.size t1 c1, BlkR (w.heap.size + 1) t2 c2, BlkR (w.heap.size + 2) t3 c3, BlkR (w.heap.size + 3) t4 c4]) := by
  have h := (pool_boxes3 s t1 t2 t3 c1 c2 c3).box t4 c4
  rw [show (((w.alloc (.cells c1 t1)).alloc (.cells c2 t2)).alloc (.cells c3 t3)).heap.size = w.heap.size + 3 by simp, List.append_assoc] at h
  exact h
/-- A pool, and what was made last. -/
theorem pool_end2 {w' : World} {R : Res} (s : St w S w' ((PoolL p bb off cap bp n st ++ N) ++ [R])) : ∃ S', Star [PoolR p n st, R] w' S' ∧ Did S S' w w' := by
  have h := s.comm
  rw [← List.append_assoc] at h
  have h2 := h.take ([R] ++ PoolL p bb off cap bp n st).length
  rw [List.take_left] at h2
  exact (h2.fold (PoolR.ok p n st) fun S h => ⟨bb, off, cap, bp, h⟩).swap01
theorem write_c (ok : POK n st G) {x g by' at' c : Int} {xs : List Int} {st' : Nat → Buf} (h : Via n st x g (WriteB by' at' xs) c st') {A : Option Addr} {cp : Nat} (hx : xs.length ≤ maxLen) : ∀ w S, PoolR p n st w S → Rds w A xs.length 1 (bys xs) →
    Calls Try.prog 27 #[.pointer (some ⟨p, 0, none⟩), .agg #[.int .i64 x, .int .u64 g], .int .i64 by', .int .i64 at', .slice A xs.length cp] w fun e w' => e = .returned (.int .i64 c) ∧ ∃ S', PoolR p n st' w' S' ∧ Did S S' w w' := by
  intro w S hp hr
  obtain ⟨bb, off, cap, bp, s⟩ := pool_begin hp
  have s1 := pool_boxes4 s 40 3 3 23 #[.int .i64 x, .int .u64 g] #[.int .i64 by'] #[.int .i64 at'] #[.slice A xs.length cp]
  have hr1 := rds_below hr (((((Below.refl w.heap.size w).alloc (Nat.le_refl _) (.cells #[.int .i64 x, .int .u64 g] 40)).alloc (by simp) (.cells #[.int .i64 by'] 3)).alloc (by simp; omega) (.cells #[.int .i64 at'] 3)).alloc (by simp; omega) (.cells #[.slice A xs.length cp] 23))
  rcases h with ⟨h, rfl, rfl⟩ | ⟨i, b', hi, rfl, ho, rfl, hb, rfl⟩
  · have W1 := Lib.hid (fun f => with_stale s1 ok.n2 x g h f)
    have S1 := Lib.hid s1
    clear s1 s h hr1
    go_enter Try.func27, Try.ntmps27
    go_wp2_with fail
    refine (W1.out _).mono ?_
    rintro e w2 ⟨rfl, hb⟩
    go_wp2_with fail
    go_ret
    exact ⟨rfl, pool_end (S1.out.stay hb)⟩
  · have W1 := Lib.hid (with_live (Q := fun c' w' => c' = c ∧ ∃ N', St w S w' (PoolL p bb off cap bp n (updB st i b') ++ N')) (caps := #[.pointer (some ⟨w.heap.size + 1, 0, none⟩), .pointer (some ⟨w.heap.size + 1 + 1, 0, none⟩), .pointer (some ⟨w.heap.size + 1 + 1 + 1, 0, none⟩)]) s1 ok.n2 hi ho enter_write (fun W hh hW sW => (write1_c sW hi (ok.b i hi).2.2.2 hb hx (pool_box sW 1 rfl).one (pool_box sW 2 rfl).one (pool_box sW 3 rfl).one (rds_below hr1 hW)).mono fun e w' h => ⟨c, h.1, rfl, _, h.2⟩))
    clear s1 s hb ho hr1
    go_enter Try.func27, Try.ntmps27
    go_wp2_with fail
    refine W1.out.mono ?_
    rintro e w2 ⟨c', rfl, rfl, N', s2⟩
    go_wp2_with fail
    go_ret
    exact ⟨rfl, pool_end s2⟩
def ReadB (at' m : Int) (b : Buf) (xs : List Int) (c : Int) : Prop := (¬ fits b.bs.length at' m ∧ c = 1 ∧ xs = []) ∨ (fits b.bs.length at' m ∧ c = 0 ∧ xs = (b.bs.drop at'.toNat).take m.toNat)
theorem read_b (at' m : Int) (b : Buf) : ∃ xs c, ReadB at' m b xs c := by
  by_cases h : fits b.bs.length at' m
  · exact ⟨_, _, Or.inr ⟨h, rfl, rfl⟩⟩
  · exact ⟨_, _, Or.inl ⟨h, rfl, rfl⟩⟩
def ReadP (n : Nat) (st : Nat → Buf) (x g at' m : Int) (xs : List Int) (c : Int) : Prop := (¬ live n st x g ∧ xs = [] ∧ c = 3) ∨ ∃ i : Nat, i < n ∧ x = (i : Int) ∧ (st i).owner ≠ 0 ∧ (st i).gen = g ∧ ReadB at' m (st i) xs c
theorem read_ex (n : Nat) (st : Nat → Buf) (x g at' m : Int) : ∃ xs c, ReadP n st x g at' m xs c := by
  by_cases hl : live n st x g
  · obtain ⟨i, h1, h2, h3, h4⟩ := live_at hl
    obtain ⟨xs, c, h⟩ := read_b at' m (st i)
    exact ⟨_, _, Or.inr ⟨i, h1, h2, h3, h4, h⟩⟩
  · exact ⟨_, _, Or.inl ⟨hl, rfl, rfl⟩⟩
def ReadQ (w0 : World) (S0 : Nat → Prop) (P : List Res) (a : Res) (f t q : Nat) (at' m : Int) (N : List Res) (xs : List Int) (w' : World) : Prop :=
  ∃ B cp, St w0 S0 w' ((P ++ ([a, BlkR f 3 #[.int .i64 at'], BlkR t 3 #[.int .i64 m], BlkR q 23 #[.slice B xs.length cp]] ++ N)) ++ [LisR 5 1 (.slice B xs.length cp) xs.length (bys xs)])
theorem read1_c {W : World} {a : Res} {f t q : Nat} {at' m : Int} (s : St w0 S0 W (PoolL p bb off cap bp n st ++ ([a, BlkR f 3 #[.int .i64 at'], BlkR t 3 #[.int .i64 m], BlkR q 23 #[.slice none 0 0]] ++ N))) {i : Nat} (hi : i < n) (hl : (st i).bs.length ≤ 65536) {xs : List Int} {c : Int} (h : ReadB at' m (st i) xs c) :
    Calls Try.prog 34 #[.pointer (some ⟨bb, off + i * 4, none⟩), .pointer (some ⟨f, 0, none⟩), .pointer (some ⟨t, 0, none⟩), .pointer (some ⟨q, 0, none⟩)] W fun e w' => e = .returned (.int .i64 c) ∧ ReadQ w0 S0 (PoolL p bb off cap bp n st) a f t q at' m N xs w' := by
  obtain ⟨e0, -, -, -⟩ := pool_four s hi
  have c1 := (pool_box s 1 rfl).one
  have c2 := (pool_box s 2 rfl).one
  rcases h with ⟨h1, rfl, rfl⟩ | ⟨h1, rfl, rfl⟩
  · have FN := Lib.hid (fits_no (w := W) (q := ⟨bb, off + i * 4, none⟩) (v := some ⟨bp i, 0, none⟩) hl at' m e0 h1)
    have S1 := Lib.hid (s.lis_nil 5 1)
    clear s h1
    go_enter Try.func34, Try.ntmps34
    go_wp2_with fail
    refine FN.out.mono ?_
    rintro e w1 ⟨rfl, rfl⟩
    go_wp2_with fail
    go_ret
    exact ⟨rfl, _, _, S1.out⟩
  · have FY := Lib.hid (fits_yes (w := W) (q := ⟨bb, off + i * 4, none⟩) (v := some ⟨bp i, 0, none⟩) hl at' m e0 h1)
    obtain ⟨f1, f2, f3, f4⟩ := h1
    obtain ⟨k, rfl⟩ := Int.eq_ofNat_of_zero_le f1
    obtain ⟨M, rfl⟩ := Int.eq_ofNat_of_zero_le f3
    have hk : k ≤ (st i).bs.length := by omega
    have hkx : k + M ≤ (st i).bs.length := by omega
    obtain ⟨i0, hi0, hz0, hz1, hz2⟩ := info_parts Try.infoU8
    have SS := Lib.hid s
    clear s f1 f2 f3 f4
    go_enter Try.func34, Try.ntmps34
    go_wp2_with fail
    refine FY.out.mono ?_
    rintro e w1 ⟨rfl, rfl⟩
    clear FY
    go_wp2_with (refine wpList_make_full _ rfl _ _ 23 rfl W.heap.size 5 i0 (.int .u8 0) 1 Try.underlying23 hi0 hz0 hz1 .i64 .i64 M M M rfl rfl rfl rfl (by rw [hz2]; omega) (by unfold maxLen; omega) (Nat.le_refl _) ?_; intro w3 hown hgrow; have s3 := (SS.out.make rfl hown hgrow).fold (R := LisR 5 1 (.slice (some ⟨W.heap.size, 0, none⟩) M M) M (bys (List.replicate M 0))) (LisR.ok _ _ _ _ _) (fun S h => arr_lis_res (star_one h) (by unfold maxLen; omega) (by simp [bys]) (fun j hj => by simp [bys, hj])); rw [List.append_assoc] at s3; have q3 := (pool_box s3 3 rfl).one; have z3 := (pool_box s3 3 rfl).frozen 0; clear hown hgrow)
    have s5' := pool_box_set s3 3 rfl 0 (.slice (some ⟨W.heap.size, 0, none⟩) M M)
    generalize W.heap.size = g at *
    generalize w3.setCell ⟨q, 0, none⟩ (.slice (some ⟨g, 0, none⟩) M M) = w5 at *
    have s5 : St w0 S0 w5.drew ((PoolL p bb off cap bp n st ++ ([a, BlkR f 3 #[.int .i64 k], BlkR t 3 #[.int .i64 M], BlkR q 23 #[.slice (some ⟨g, 0, none⟩) M M]] ++ N)) ++ [LisR 5 1 (.slice (some ⟨g, 0, none⟩) M M) M (bys (List.replicate M 0))]) := by
      rw [List.append_assoc]
      exact s5'.drew
    obtain ⟨y0, -, -, -⟩ := pool_four s5' hi
    have y1 := (pool_box s5' 1 rfl).one
    have y3 : w5.cell? ⟨q, 0, none⟩ = some (.slice (some ⟨g, 0, none⟩) M M) := (pool_box s5' 3 rfl).one
    have L2 := s5.last_lis
    have R2 : Rds w5.drew (if (st i).bs.length = k then some ⟨bp i, 0, none⟩ else some ⟨bp i, k, none⟩) ((st i).bs.length - k) 1 (bys ((st i).bs.drop k)) := by
      have hb : Lis w5 5 1 (.slice (some ⟨bp i, 0, none⟩) (st i).bs.length (st i).bs.length) (st i).bs.length (bys (st i).bs) := s5'.lis _ (pool_idx (by omega) hi)
      have hc := (hb.cut hk).reads
      refine ⟨by simp [bys], ?_⟩
      rcases hc.2 with h | ⟨g', o', he, hcc⟩
      · exact Or.inl h
      · by_cases hkk : (st i).bs.length = k
        · exact Or.inl (by omega)
        · refine Or.inr ⟨bp i, k, by rw [if_neg hkk], fun j u hu => ?_⟩
          rw [if_neg hkk] at he
          rw [Option.map_some, Go.WideShapes.add_plain] at he
          have he2 : bp i = g' ∧ k = o' := by simpa using he
          obtain ⟨rfl, rfl⟩ := he2
          exact hcc j u (by simpa [bys] using hu)
    have S5 := Lib.hid s5
    clear s5 s5' s3 q3 z3 SS e0 c1 c2
    go_region_law (refine step_copy (w := w5.drew) (by rfl) _ _ _ _ (by rfl) 5 Try.underlying23 (by kernel_rfl) L2 0 (Nat.zero_le _) (some ⟨g, 0, none⟩) M (fun h => rfl) (if (st i).bs.length = k then some ⟨bp i, 0, none⟩ else some ⟨bp i, k, none⟩) ((st i).bs.length - k) ((st i).bs.length - k) (by rfl) (by rfl) (bys ((st i).bs.drop k)) R2 (bys_one _) ?_; intro w6 hl6 ho6)
    all_goals
      have hmin : min ((st i).bs.length - k) (M - 0) = M := by omega
      have hlen : (((st i).bs.drop k).take M).length = M := by simp; omega
      have e6 : (bys (List.replicate M 0)).take 0 ++ (bys ((st i).bs.drop k)).take M ++ (bys (List.replicate M 0)).drop (0 + M) = bys (((st i).bs.drop k).take M) := by simp [bys]
      rw [hmin, e6] at hl6
      have S6 := Lib.hid (S5.out.last_copied hl6 ho6)
      clear hl6 ho6 S5
    all_goals go_wp2_with fail
    all_goals go_ret
    all_goals exact ⟨rfl, some ⟨g, 0, none⟩, M, by
      show St w0 S0 w6 ((PoolL p bb off cap bp n st ++ ([a, BlkR f 3 #[.int .i64 k], BlkR t 3 #[.int .i64 M], BlkR q 23 #[.slice (some ⟨g, 0, none⟩) (((st i).bs.drop k).take M).length M]] ++ N)) ++ [LisR 5 1 (.slice (some ⟨g, 0, none⟩) (((st i).bs.drop k).take M).length M) (((st i).bs.drop k).take M).length (bys (((st i).bs.drop k).take M))])
      rw [hlen]
      exact S6.out⟩
end
end Go.Proofs.Ytiaojhjghededaa
