/- Layer 7: read, counted. -/
import Derived.Test.YtceoflpoefehoaaPoolX
namespace Go.Proofs.Ytceoflpoefehoaa
open Go.RowKit
set_option linter.unusedVariables false
set_option maxRecDepth 100000
set_option maxHeartbeats 800000
section
variable {w0 w : World} {S S0 : Nat → Prop} {N L : List Res} {p bb off cap n : Nat} {bp : Nat → Nat} {st : Nat → Buf} {G : Int}
theorem read_m (ok : POK n st G) {x g at' m c : Int} {xs : List Int} (h : ReadP n st x g at' m xs c) :
    Meth Try.prog 22 #[.pointer (some ⟨p, 0, none⟩), .agg #[.int .i64 x, .int .u64 g], .int .i64 at', .int .i64 m] (PoolR p n st) fun e R' N => R' = PoolR p n st ∧ ∃ B cp, e = .returned (.tuple #[.slice B xs.length cp, .int .i64 c]) ∧ N = [LisR 5 1 (.slice B xs.length cp) xs.length (bys xs)] := by
  intro w S hp
  obtain ⟨bb, off, cap, bp, s⟩ := pool_begin hp
  have s1 := pool_boxes4 s 34 3 3 35 #[.int .i64 x, .int .u64 g] #[.int .i64 at'] #[.int .i64 m] #[.slice none 0 0]
  rcases h with ⟨h, rfl, rfl⟩ | ⟨i, hi, rfl, ho, rfl, hb⟩
  · have W1 := Lib.hid (fun f => with_stale s1 ok.n2 x g h f)
    have S1 := Lib.hid s1
    clear s1 s h
    go_enter Try.func22, Try.ntmps22
    go_wp2_with fail
    refine (W1.out _).mono ?_
    rintro e w2 ⟨rfl, hb⟩
    have s2 := S1.out.stay hb
    have q3 := (pool_box s2 3 rfl).one
    have S2 := Lib.hid (pool_end2 (s2.lis_nil 5 1))
    clear s2 hb S1 W1
    go_wp2_with fail
    go_ret2
    exact ⟨_, _, ⟨rfl, none, 0, rfl, rfl⟩, PoolR.ok p n st, S2.out⟩
  · have W1 := Lib.hid (with_live (Q := fun c' w' => c' = c ∧ ∃ N', ReadQ w S (PoolL p bb off cap bp n st) (BlkR w.heap.size 34 #[.int .i64 i, .int .u64 (st i).gen]) (w.heap.size + 1) (w.heap.size + 2) (w.heap.size + 3) at' m N' xs w') (caps := #[.pointer (some ⟨w.heap.size + 1, 0, none⟩), .pointer (some ⟨w.heap.size + 1 + 1, 0, none⟩), .pointer (some ⟨w.heap.size + 1 + 1 + 1, 0, none⟩)]) s1 ok.n2 hi ho enter_read (fun W hh hW sW => (read1_c sW hi (ok.b i hi).2.2.2 hb).mono fun e w' h => ⟨c, h.1, rfl, _, h.2⟩))
    clear s1 s hb ho
    go_enter Try.func22, Try.ntmps22
    go_wp2_with fail
    refine W1.out.mono ?_
    rintro e w2 ⟨c', rfl, rfl, N', B, cp, s2⟩
    have s3 := s2
    rw [List.append_assoc] at s3
    have q3 : w2.cell? ⟨w.heap.size + 3, 0, none⟩ = some (.slice B xs.length cp) := (pool_box s3 3 rfl).one
    have S2 := Lib.hid (pool_end2 s2)
    clear s2 s3 W1
    go_wp2_with fail
    go_ret2
    exact ⟨_, _, ⟨rfl, B, cp, rfl, rfl⟩, PoolR.ok p n st, S2.out⟩
/-- How many are free. -/
def frees (st : Nat → Buf) : Nat → Nat
  | 0 => 0
  | k + 1 => frees st k + (if (st k).owner = 0 then 1 else 0)
theorem frees_le (st : Nat → Buf) : ∀ k, frees st k ≤ k
  | 0 => Nat.le_refl _
  | k + 1 => by have := frees_le st k; unfold frees; split <;> omega
theorem count_c : ∀ w S, PoolR p n st w S → Calls Try.prog 20 #[.pointer (some ⟨p, 0, none⟩)] w fun e w' => e = .returned (.int .i64 n) ∧ ∃ S', PoolR p n st w' S' ∧ Did S S' w w' := by
  intro w S hp
  obtain ⟨bb, off, cap, bp, s⟩ := pool_begin hp
  have c0 := pool_p s
  have SS := Lib.hid s
  clear s
  go_enter Try.func20, Try.ntmps20
  go_wp2
  go_ret
  exact ⟨rfl, pool_end SS.out⟩
theorem free_c (hn : n ≤ 800) (c : Nat) (hc : c = frees st n) : ∀ w S, PoolR p n st w S → Calls Try.prog 19 #[.pointer (some ⟨p, 0, none⟩)] w fun e w' => e = .returned (.int .i64 c) ∧ ∃ S', PoolR p n st w' S' ∧ Did S S' w w' := by
  intro w S hp
  obtain ⟨bb, off, cap, bp, s⟩ := pool_begin hp
  have c0 := pool_p s
  have HC := Lib.hid hc
  clear hc
  go_enter Try.func19, Try.ntmps19
  go_wp2_with fail
  go_loopw [3, 11] (fun f i wr => ∃ k : Nat, k ≤ n ∧ i = .int .i64 k ∧ f = .int .i64 (frees st k) ∧ St w S wr (PoolL p bb off cap bp n st ++ [])) (fun _ i _ => n - (intOf i).toNat)
  case atStart => exact ⟨0, by omega, rfl, rfl, s⟩
  case round =>
    clear s c0
    obtain ⟨k, hk, rfl, rfl, sr⟩ := hrel
    by_cases hlt : k < n
    · obtain ⟨e0, e1, e2, e3⟩ := pool_four sr hlt
      have hfl := frees_le st k
      have SR := Lib.hid (fun o => sr.stay ((Below.refl _ _).alloc (Nat.le_refl _) o))
      clear sr
      by_cases h0 : (st k).owner = 0
      · have HF := Lib.hid (show frees st (k + 1) = frees st k + 1 by simp [frees, h0])
        rw [h0] at e2
        clear h0
        generalize (st k).gen = g1 at *
        generalize (st k).refs = r1 at *
        generalize (st k).bs.length = l1 at *
        generalize frees st k = fk at *
        go_wp2_with fail
        exact ⟨⟨k + 1, by omega, by go_num, by rw [HF.out]; go_num, SR.out _⟩, by simp [intOf]; omega⟩
      · have HF := Lib.hid (show frees st (k + 1) = frees st k by simp [frees, h0])
        have z0 : ((st k).owner == 0) = false := beq_eq_false_iff_ne.2 h0
        clear h0
        generalize (st k).owner = o1 at *
        generalize (st k).gen = g1 at *
        generalize (st k).refs = r1 at *
        generalize (st k).bs.length = l1 at *
        generalize frees st k = fk at *
        go_wp2_with fail
        exact ⟨⟨k + 1, by omega, by go_num, by rw [HF.out], SR.out _⟩, by simp [intOf]; omega⟩
    · obtain rfl : k = n := by omega
      go_wp2
      go_ret
      exact ⟨by rw [HC.out]; rfl, pool_end sr⟩
end
end Go.Proofs.Ytceoflpoefehoaa
