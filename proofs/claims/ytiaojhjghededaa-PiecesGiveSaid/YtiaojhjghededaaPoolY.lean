/- Layer 7: read, counted. -/
import Derived.Test.YtiaojhjghededaaPoolX
namespace Go.Proofs.Ytiaojhjghededaa
open Go.RowKit
set_option linter.unusedVariables false
set_option maxRecDepth 100000
set_option maxHeartbeats 800000
section
variable {w0 w : World} {S S0 : Nat → Prop} {N L : List Res} {p bb off cap n : Nat} {bp : Nat → Nat} {st : Nat → Buf} {G : Int}
theorem read_m (ok : POK n st G) {x g at' m c : Int} {xs : List Int} (h : ReadP n st x g at' m xs c) :
    Meth Try.prog 19 #[.pointer (some ⟨p, 0, none⟩), .agg #[.int .i64 x, .int .u64 g], .int .i64 at', .int .i64 m] (PoolR p n st) fun e R' N => R' = PoolR p n st ∧ ∃ B cp, e = .returned (.tuple #[.slice B xs.length cp, .int .i64 c]) ∧ N = [LisR 5 1 (.slice B xs.length cp) xs.length (bys xs)] := by
  intro w S hp
  obtain ⟨bb, off, cap, bp, s⟩ := pool_begin hp
  have s1 := pool_boxes4 s 40 3 3 23 #[.int .i64 x, .int .u64 g] #[.int .i64 at'] #[.int .i64 m] #[.slice none 0 0]
  rcases h with ⟨h, rfl, rfl⟩ | ⟨i, hi, rfl, ho, rfl, hb⟩
  · have W1 := Lib.hid (fun f => with_stale s1 ok.n2 x g h f)
    have S1 := Lib.hid s1
    clear s1 s h
    go_enter Try.func19, Try.ntmps19
    go_wp2_with fail
    refine (W1.out _).mono ?_
    rintro e w2 ⟨rfl, hb⟩
    have s2 := S1.out.stay hb
    have q3 := (pool_box s2 3 rfl).one
    have S2 := Lib.hid (pool_end2 (s2.lis_nil 5 1))
    clear s2 hb S1 W1
    go_wp2_with fail
    go_ret2
    exact ⟨_, _, ⟨rfl, none, 0, rfl, rfl⟩, PoolR.ok p n st, S2.out⟩
  · have W1 := Lib.hid (with_live (Q := fun c' w' => c' = c ∧ ∃ N', ReadQ w S (PoolL p bb off cap bp n st) (BlkR w.heap.size 40 #[.int .i64 i, .int .u64 (st i).gen]) (w.heap.size + 1) (w.heap.size + 2) (w.heap.size + 3) at' m N' xs w') (caps := #[.pointer (some ⟨w.heap.size + 1, 0, none⟩), .pointer (some ⟨w.heap.size + 1 + 1, 0, none⟩), .pointer (some ⟨w.heap.size + 1 + 1 + 1, 0, none⟩)]) s1 ok.n2 hi ho enter_read (fun W hh hW sW => (read1_c sW hi (ok.b i hi).2.2.2 hb).mono fun e w' h => ⟨c, h.1, rfl, _, h.2⟩))
    clear s1 s hb ho
    go_enter Try.func19, Try.ntmps19
    go_wp2_with fail
    refine W1.out.mono ?_
    rintro e w2 ⟨c', rfl, rfl, N', B, cp, s2⟩
    have s3 := s2
    rw [List.append_assoc] at s3
    have q3 : w2.cell? ⟨w.heap.size + 3, 0, none⟩ = some (.slice B xs.length cp) := (pool_box s3 3 rfl).one
    have S2 := Lib.hid (pool_end2 s2)
    clear s2 s3 W1
    go_wp2_with fail
    go_ret2
    exact ⟨_, _, ⟨rfl, B, cp, rfl, rfl⟩, PoolR.ok p n st, S2.out⟩
/-- How many are free. -/
def frees (st : Nat → Buf) : Nat → Nat
  | 0 => 0
  | k + 1 => frees st k + (if (st k).owner = 0 then 1 else 0)
theorem frees_le (st : Nat → Buf) : ∀ k, frees st k ≤ k
  | 0 => Nat.le_refl _
  | k + 1 => by have := frees_le st k; unfold frees; split <;> omega
end
end Go.Proofs.Ytiaojhjghededaa
