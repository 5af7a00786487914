/- Layer 7: given; whose a buffer is, and how great. -/
import Derived.Test.YtiaojhjghededaaPoolT
namespace Go.Proofs.Ytiaojhjghededaa
open Go.RowKit
set_option linter.unusedVariables false
set_option maxRecDepth 100000
set_option maxHeartbeats 800000
section
variable {w0 w : World} {S S0 : Nat → Prop} {N : List Res} {p bb off cap n : Nat} {bp : Nat → Nat} {st : Nat → Buf} {G : Int}
theorem pool_boxes3 (s : St w0 S0 w (PoolL p bb off cap bp n st ++ [])) (t1 t2 t3 : TypeId) (c1 c2 c3 : Array Value) :
    St w0 S0 (((w.alloc (.cells c1 t1)).alloc (.cells c2 t2)).alloc (.cells c3 t3)) (PoolL p bb off cap bp n st ++ [BlkR w.heap.size t1 c1, BlkR (w.heap.size + 1) t2 c2, BlkR (w.heap.size + 2) t3 c3]) := by
  have h := s.box3 t1 t2 t3 c1 c2 c3
  rw [List.append_assoc, List.append_assoc, List.append_assoc] at h
  exact h
theorem pool_boxes2 (s : St w0 S0 w (PoolL p bb off cap bp n st ++ [])) (t1 t2 : TypeId) (c1 c2 : Array Value) :
    St w0 S0 ((w.alloc (.cells c1 t1)).alloc (.cells c2 t2)) (PoolL p bb off cap bp n st ++ [BlkR w.heap.size t1 c1, BlkR (w.heap.size + 1) t2 c2]) := by
  have h := s.box2 t1 t2 c1 c2
  rw [List.append_assoc, List.append_assoc] at h
  exact h
theorem give_c (ok : POK n st G) {x g a z c : Int} {st' : Nat → Buf} (h : Via n st x g (GiveB a z) c st') : ∀ w S, PoolR p n st w S →
    Calls Try.prog 30 #[.pointer (some ⟨p, 0, none⟩), .agg #[.int .i64 x, .int .u64 g], .int .i64 a, .int .i64 z] w fun e w' => e = .returned (.int .i64 c) ∧ ∃ S', PoolR p n st' w' S' ∧ Did S S' w w' := by
  intro w S hp
  obtain ⟨bb, off, cap, bp, s⟩ := pool_begin hp
  have s1 := pool_boxes3 s 40 3 3 #[.int .i64 x, .int .u64 g] #[.int .i64 a] #[.int .i64 z]
  rcases h with ⟨h, rfl, rfl⟩ | ⟨i, b', hi, rfl, ho, rfl, hb, rfl⟩
  · have W1 := Lib.hid (fun f => with_stale s1 ok.n2 x g h f)
    have S1 := Lib.hid s1
    clear s1 s h
    go_enter Try.func30, Try.ntmps30
    go_wp2_with fail
    refine (W1.out _).mono ?_
    rintro e w2 ⟨rfl, hb⟩
    go_wp2_with fail
    go_ret
    exact ⟨rfl, pool_end (S1.out.stay hb)⟩
  · have W1 := Lib.hid (with_live (Q := fun c' w' => c' = c ∧ ∃ N', St w S w' (PoolL p bb off cap bp n (updB st i b') ++ N')) (caps := #[.pointer (some ⟨w.heap.size + 1, 0, none⟩), .pointer (some ⟨w.heap.size + 1 + 1, 0, none⟩)]) s1 ok.n2 hi ho enter_give (fun W hh _ sW => (give1_c sW hi hb (pool_box sW 1 rfl).one (pool_box sW 2 rfl).one).mono fun e w' h => ⟨c, h.1, rfl, _, h.2⟩))
    clear s1 s hb ho
    go_enter Try.func30, Try.ntmps30
    go_wp2_with fail
    refine W1.out.mono ?_
    rintro e w2 ⟨c', rfl, rfl, N', s2⟩
    go_wp2_with fail
    go_ret
    exact ⟨rfl, pool_end s2⟩
theorem owner1_c {W : World} {a : Res} {f t : Nat} (s : St w0 S0 W (PoolL p bb off cap bp n st ++ ([a, BlkR f 3 #[.int .i64 0], BlkR t 3 #[.int .i64 0]] ++ N))) {i : Nat} (hi : i < n) :
    Calls Try.prog 33 #[.pointer (some ⟨bb, off + i * 4, none⟩), .pointer (some ⟨f, 0, none⟩), .pointer (some ⟨t, 0, none⟩)] W fun e w' => e = .returned (.int .i64 0) ∧ St w0 S0 w' (PoolL p bb off cap bp n st ++ ([a, BlkR f 3 #[.int .i64 (st i).owner], BlkR t 3 #[.int .i64 (st i).refs]] ++ N)) := by
  obtain ⟨e0, e1, e2, e3⟩ := pool_four s hi
  have c1 := (pool_box s 1 rfl).one
  have c2 := (pool_box s 2 rfl).one
  have sa := pool_box_set s 1 rfl 0 (.int .i64 (st i).owner)
  have sb := pool_box_set s 2 rfl 0 (.int .i64 (st i).refs)
  have f1 := (pool_box s 1 rfl).frozen 0
  have f2 := (pool_box s 2 rfl).frozen 0
  have SA := Lib.hid (pool_box_set sa 2 rfl 0 (.int .i64 (st i).refs))
  have g2 := (pool_box sa 2 rfl).one
  have k2 := (pool_box sa 2 rfl).frozen 0
  have g1 := (pool_box sb 1 rfl).one
  have k1 := (pool_box sb 1 rfl).frozen 0
  have SB := Lib.hid (pool_box_set sb 1 rfl 0 (.int .i64 (st i).owner))
  clear e0 e1 s sa sb
  generalize (st i).owner = ow at *
  generalize (st i).refs = rf at *
  go_enter Try.func33, Try.ntmps33
  go_wp2_with fail
  go_region
  all_goals
    go_wp2_with fail
    go_ret
    first
      | exact ⟨rfl, SA.out.drew⟩
      | exact ⟨rfl, SB.out.drew⟩
theorem size1_c {W : World} {a : Res} {f : Nat} (s : St w0 S0 W (PoolL p bb off cap bp n st ++ ([a, BlkR f 3 #[.int .i64 0]] ++ N))) {i : Nat} (hi : i < n) :
    Calls Try.prog 41 #[.pointer (some ⟨bb, off + i * 4, none⟩), .pointer (some ⟨f, 0, none⟩)] W fun e w' => e = .returned (.int .i64 0) ∧ St w0 S0 w' (PoolL p bb off cap bp n st ++ ([a, BlkR f 3 #[.int .i64 ((st i).bs.length : Nat)]] ++ N)) := by
  obtain ⟨e0, e1, e2, e3⟩ := pool_four s hi
  have c1 := (pool_box s 1 rfl).one
  have f1 := (pool_box s 1 rfl).frozen 0
  have SA := Lib.hid (pool_box_set s 1 rfl 0 (.int .i64 ((st i).bs.length : Nat)))
  clear e1 e2 e3 s
  generalize (st i).bs.length = ow at *
  go_enter Try.func41, Try.ntmps41
  go_wp2_with fail
  go_ret
  exact ⟨rfl, SA.out⟩
/-- Of a buffer's handle: whose, how often. -/
def OwnerP (n : Nat) (st : Nat → Buf) (x g o r c : Int) : Prop := (¬ live n st x g ∧ o = 0 ∧ r = 0 ∧ c = 3) ∨ ∃ i : Nat, i < n ∧ x = (i : Int) ∧ (st i).owner ≠ 0 ∧ (st i).gen = g ∧ o = (st i).owner ∧ r = (st i).refs ∧ c = 0
def SizeP (n : Nat) (st : Nat → Buf) (x g z c : Int) : Prop := (¬ live n st x g ∧ z = 0 ∧ c = 3) ∨ ∃ i : Nat, i < n ∧ x = (i : Int) ∧ (st i).owner ≠ 0 ∧ (st i).gen = g ∧ z = ((st i).bs.length : Nat) ∧ c = 0
theorem owner_ex (n : Nat) (st : Nat → Buf) (x g : Int) : ∃ o r c, OwnerP n st x g o r c := by
  by_cases hl : live n st x g
  · obtain ⟨i, h1, h2, h3, h4⟩ := live_at hl
    exact ⟨_, _, _, Or.inr ⟨i, h1, h2, h3, h4, rfl, rfl, rfl⟩⟩
  · exact ⟨_, _, _, Or.inl ⟨hl, rfl, rfl, rfl⟩⟩
theorem size_ex (n : Nat) (st : Nat → Buf) (x g : Int) : ∃ z c, SizeP n st x g z c := by
  by_cases hl : live n st x g
  · obtain ⟨i, h1, h2, h3, h4⟩ := live_at hl
    exact ⟨_, _, Or.inr ⟨i, h1, h2, h3, h4, rfl, rfl⟩⟩
  · exact ⟨_, _, Or.inl ⟨hl, rfl, rfl⟩⟩
theorem owner_c (ok : POK n st G) {x g o r c : Int} (h : OwnerP n st x g o r c) : ∀ w S, PoolR p n st w S →
    Calls Try.prog 17 #[.pointer (some ⟨p, 0, none⟩), .agg #[.int .i64 x, .int .u64 g]] w fun e w' => e = .returned (.tuple #[.int .i64 o, .int .i64 r, .int .i64 c]) ∧ ∃ S', PoolR p n st w' S' ∧ Did S S' w w' := by
  intro w S hp
  obtain ⟨bb, off, cap, bp, s⟩ := pool_begin hp
  have s1 := pool_boxes3 s 40 3 3 #[.int .i64 x, .int .u64 g] #[.int .i64 0] #[.int .i64 0]
  rcases h with ⟨h, rfl, rfl, rfl⟩ | ⟨i, hi, rfl, ho, rfl, rfl, rfl, rfl⟩
  · have W1 := Lib.hid (fun f => with_stale s1 ok.n2 x g h f)
    have S1 := Lib.hid s1
    clear s1 s h
    go_enter Try.func17, Try.ntmps17
    go_wp2_with fail
    refine (W1.out _).mono ?_
    rintro e w2 ⟨rfl, hb⟩
    have s2 := S1.out.stay hb
    have b1 := (pool_box s2 1 rfl).one
    have b2 := (pool_box s2 2 rfl).one
    have S2 := Lib.hid s2
    clear s2 hb
    go_wp2_with fail
    go_quiet (fail)
    go_wp2_with fail
    go_ret3
    exact ⟨rfl, pool_end (S2.out.drewN _)⟩
  · have W1 := Lib.hid (with_live (Q := fun c' w' => c' = 0 ∧ ∃ N', St w S w' (PoolL p bb off cap bp n st ++ ([BlkR w.heap.size 40 #[.int .i64 i, .int .u64 (st i).gen], BlkR (w.heap.size + 1) 3 #[.int .i64 (st i).owner], BlkR (w.heap.size + 2) 3 #[.int .i64 (st i).refs]] ++ N'))) (caps := #[.pointer (some ⟨w.heap.size + 1, 0, none⟩), .pointer (some ⟨w.heap.size + 1 + 1, 0, none⟩)]) s1 ok.n2 hi ho enter_owner (fun W hh _ sW => (owner1_c sW hi).mono fun e w' h => ⟨0, h.1, rfl, _, h.2⟩))
    clear s1 s ho
    go_enter Try.func17, Try.ntmps17
    go_wp2_with fail
    refine W1.out.mono ?_
    rintro e w2 ⟨c', rfl, rfl, N', s2⟩
    have b1 := (pool_box s2 1 rfl).one
    have b2 := (pool_box s2 2 rfl).one
    have S2 := Lib.hid s2
    clear s2
    go_wp2_with fail
    go_quiet (fail)
    go_wp2_with fail
    go_ret3
    exact ⟨rfl, pool_end (S2.out.drewN _)⟩
theorem size_c (ok : POK n st G) {x g z c : Int} (h : SizeP n st x g z c) : ∀ w S, PoolR p n st w S →
    Calls Try.prog 36 #[.pointer (some ⟨p, 0, none⟩), .agg #[.int .i64 x, .int .u64 g]] w fun e w' => e = .returned (.tuple #[.int .i64 z, .int .i64 c]) ∧ ∃ S', PoolR p n st w' S' ∧ Did S S' w w' := by
  intro w S hp
  obtain ⟨bb, off, cap, bp, s⟩ := pool_begin hp
  have s1 := pool_boxes2 s 40 3 #[.int .i64 x, .int .u64 g] #[.int .i64 0]
  rcases h with ⟨h, rfl, rfl⟩ | ⟨i, hi, rfl, ho, rfl, rfl, rfl⟩
  · have W1 := Lib.hid (fun f => with_stale s1 ok.n2 x g h f)
    have S1 := Lib.hid s1
    clear s1 s h
    go_enter Try.func36, Try.ntmps36
    go_wp2_with fail
    refine (W1.out _).mono ?_
    rintro e w2 ⟨rfl, hb⟩
    have s2 := S1.out.stay hb
    have b1 := (pool_box s2 1 rfl).one
    have S2 := Lib.hid s2
    clear s2 hb
    go_wp2_with fail
    go_ret2
    exact ⟨rfl, pool_end S2.out⟩
  · have W1 := Lib.hid (with_live (Q := fun c' w' => c' = 0 ∧ ∃ N', St w S w' (PoolL p bb off cap bp n st ++ ([BlkR w.heap.size 40 #[.int .i64 i, .int .u64 (st i).gen], BlkR (w.heap.size + 1) 3 #[.int .i64 ((st i).bs.length : Nat)]] ++ N'))) (caps := #[.pointer (some ⟨w.heap.size + 1, 0, none⟩)]) s1 ok.n2 hi ho enter_size (fun W hh _ sW => (size1_c sW hi).mono fun e w' h => ⟨0, h.1, rfl, _, h.2⟩))
    clear s1 s ho
    go_enter Try.func36, Try.ntmps36
    go_wp2_with fail
    refine W1.out.mono ?_
    rintro e w2 ⟨c', rfl, rfl, N', s2⟩
    have b1 := (pool_box s2 1 rfl).one
    have S2 := Lib.hid s2
    clear s2
    go_wp2_with fail
    go_ret2
    exact ⟨rfl, pool_end S2.out⟩
end
end Go.Proofs.Ytiaojhjghededaa
