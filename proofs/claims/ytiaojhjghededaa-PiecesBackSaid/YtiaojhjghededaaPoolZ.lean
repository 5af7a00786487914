/- Layer 7: got. -/
import Derived.Test.YtiaojhjghededaaPoolY
namespace Go.Proofs.Ytiaojhjghededaa
open Go.RowKit
set_option linter.unusedVariables false
set_option maxRecDepth 100000
set_option maxHeartbeats 800000
def fit (st : Nat → Buf) (z : Int) (j : Nat) : Prop := (st j).owner = 0 ∧ z ≤ ((st j).bs.length : Nat)
def got (b : Buf) : Buf := { b with owner := 1, refs := 1, bs := List.replicate b.bs.length 0 }
/-- What a Get answers, and what is there then. -/
def GetP (n : Nat) (st : Nat → Buf) (z x g c : Int) (st' : Nat → Buf) : Prop :=
  (¬ (1 ≤ z ∧ z ≤ ((st (n - 1)).bs.length : Nat)) ∧ x = 0 ∧ g = 0 ∧ c = 1 ∧ st' = st) ∨
  ((1 ≤ z ∧ z ≤ ((st (n - 1)).bs.length : Nat)) ∧ (∀ j, j < n → ¬ fit st z j) ∧ x = 0 ∧ g = 0 ∧ c = 5 ∧ st' = st) ∨
  ((1 ≤ z ∧ z ≤ ((st (n - 1)).bs.length : Nat)) ∧ ∃ i : Nat, i < n ∧ (∀ j, j < i → ¬ fit st z j) ∧ fit st z i ∧ x = (i : Int) ∧ g = (st i).gen ∧ c = 0 ∧ st' = updB st i (got (st i)))
theorem first_fit (P : Nat → Prop) : ∀ n, (∀ j, j < n → ¬ P j) ∨ ∃ i, i < n ∧ (∀ j, j < i → ¬ P j) ∧ P i
  | 0 => Or.inl fun j h => absurd h (by omega)
  | n + 1 => by
    rcases first_fit P n with h | ⟨i, h1, h2, h3⟩
    · rcases Classical.em (P n) with hp | hp
      · exact Or.inr ⟨n, by omega, h, hp⟩
      · exact Or.inl fun j hj => by
          by_cases e : j = n
          · rw [e]; exact hp
          · exact h j (by omega)
    · exact Or.inr ⟨i, by omega, h2, h3⟩
theorem get_ex (n : Nat) (st : Nat → Buf) (z : Int) : ∃ x g c st', GetP n st z x g c st' := by
  by_cases h : 1 ≤ z ∧ z ≤ ((st (n - 1)).bs.length : Nat)
  · rcases first_fit (fit st z) n with h2 | ⟨i, h1, h2, h3⟩
    · exact ⟨_, _, _, _, Or.inr (Or.inl ⟨h, h2, rfl, rfl, rfl, rfl⟩)⟩
    · exact ⟨_, _, _, _, Or.inr (Or.inr ⟨h, i, h1, h2, h3, rfl, rfl, rfl, rfl⟩)⟩
  · exact ⟨_, _, _, _, Or.inl ⟨h, rfl, rfl, rfl, rfl⟩⟩
theorem zero_u8 (w : World) : (zeroValue 5).run Try.prog w = .ok (.int .u8 0) w := by
  obtain ⟨i0, hi0, hz0, hz1, hz2⟩ := info_parts Try.infoU8
  simp [zeroValue, typeInfo, hi0, hz0]
section
variable {w0 w : World} {S S0 : Nat → Prop} {N L : List Res} {p bb off cap n : Nat} {bp : Nat → Nat} {st : Nat → Buf} {G : Int}
theorem get_c (ok : POK n st G) {z x g c : Int} {st' : Nat → Buf} (h : GetP n st z x g c st') : ∀ w S, PoolR p n st w S →
    Calls Try.prog 18 #[.pointer (some ⟨p, 0, none⟩), .int .i64 z] w fun e w' => e = .returned (.tuple #[.agg #[.int .i64 x, .int .u64 g], .int .i64 c]) ∧ ∃ S', PoolR p n st' w' S' ∧ Did S S' w w' := by
  intro w S hp
  obtain ⟨bb, off, cap, bp, s⟩ := pool_begin hp
  have h1 := ok.n1
  have h8 := ok.n2
  have s1 := s.box 40 #[.int .i64 0, .int .u64 0]
  rw [List.append_assoc] at s1
  have c0 := pool_p s1
  obtain ⟨n', rfl⟩ : ∃ n', n = n' + 1 := ⟨n - 1, by omega⟩
  unfold GetP at h
  rw [show n' + 1 - 1 = n' by omega] at h
  have hlen := (ok.b n' (by omega)).2.2.2
  obtain ⟨e0, -, -, -⟩ := pool_four s1 (i := n') (by omega)
  have wn : IntKind.i64.wrap (((n' + 1 : Nat) : Int) - 1) = (n' : Int) := by
    rw [IntWalk.i64_in _ ⟨by omega, by omega⟩]; omega
  have n0 : (0 : Int) ≤ (n' : Int) := by omega
  have n1 : (n' : Int) < ((n' + 1 : Nat) : Int) := by omega
  obtain ⟨b0, b1⟩ := (Blk.new w 40 #[.int .i64 0, .int .u64 0]).two
  have fb0 := (Blk.new w 40 #[.int .i64 0, .int .u64 0]).frozen 0
  have fb1 := (Blk.new w 40 #[.int .i64 0, .int .u64 0]).frozen 1
  have SD := Lib.hid (fun q => pool_box_set (pool_box_set (s1.drewN q) 0 rfl 0 (.int .i64 0)) 0 rfl 1 (.int .u64 0))
  have S1 := Lib.hid s1
  clear s1 s
  generalize hle : (st n').bs.length = le at *
  by_cases hz : 1 ≤ z ∧ z ≤ (le : Int)
  · have d1 : decide (z < 1) = false := decide_eq_false (by omega)
    have d2 : decide ((le : Int) < z) = false := decide_eq_false (by omega)
    go_enter Try.func18, Try.ntmps18
    go_wp2_with fail
    go_quiet (fail)
    go_wp2_with fail
    go_loopw [36] (fun i wr => ∃ k : Nat, k ≤ n' + 1 ∧ i = .int .i64 k ∧ (∀ j, j < k → ¬ fit st z j) ∧ St w S wr (PoolL p bb off cap bp (n' + 1) st ++ [BlkR w.heap.size 40 #[.int .i64 0, .int .u64 0]])) (fun i _ => (n' + 1) - (intOf i).toNat)
    case atStart => exact ⟨0, by omega, rfl, fun j hj => absurd hj (by omega), S1.out.drewN _⟩
    case round =>
      clear c0 b0 b1 fb0 fb1 e0 S1
      obtain ⟨k, hk, rfl, hno, sr⟩ := hrel
      have c0 := pool_p sr
      have i0' : (0 : Int) ≤ (k : Int) := by omega
      by_cases hlt : k < n' + 1
      · obtain ⟨e0, e1, e2, e3⟩ := pool_four sr hlt
        have hlk := (ok.b k hlt).2.2.2
        have i1' : (k : Int) < ((n' + 1 : Nat) : Int) := by omega
        by_cases ho : (st k).owner = 0
        · by_cases hf : z ≤ ((st k).bs.length : Nat)
          · obtain ⟨rfl, rfl, rfl, rfl⟩ : x = (k : Int) ∧ g = (st k).gen ∧ c = 0 ∧ st' = updB st k (got (st k)) := by
              rcases h with ⟨h, -⟩ | ⟨-, h, -⟩ | ⟨-, i, hi, hj, hfi, h⟩
              · exact absurd hz h
              · exact absurd ⟨ho, hf⟩ (h k hlt)
              · obtain rfl : i = k := by
                  rcases Nat.lt_trichotomy i k with hh | hh | hh
                  · exact absurd hfi (hno i hh)
                  · exact hh
                  · exact absurd ⟨ho, hf⟩ (hj k hh)
                exact h
            rw [ho] at e2
            have d3 : decide (((st k).bs.length : Int) < z) = false := decide_eq_false (by omega)
            have hL := sr.lis _ (pool_idx (N := [BlkR w.heap.size 40 #[.int .i64 0, .int .u64 0]]) (bp := bp) (st := st) (p := p) (bb := bb) (off := off) (cap := cap) (by omega) hlt)
            have SR := Lib.hid sr
            have HO := Lib.hid ho
            clear sr h hno ho e3
            go_wp2_with (refine wpList_clear rfl (.tmp 62) 23 rfl (.int .u8 0) Try.underlying23 zero_u8 rfl rfl rfl hL (by omega) ?_; intro w4 hl4 ho4; have s4 := pool_copied SR.out hlt (List.replicate (st k).bs.length 0) (by simp) (by simpa [bys] using hl4) ho4; clear hl4 ho4 hL e0 e1 e2; obtain ⟨e0, e1, e2, e3⟩ := pool_four s4 hlt; have f2 := pool_frozen s4 (off + k * 4 + 2); have s5 := pool_seto s4 hlt 1; rw [updB_two] at s5; obtain ⟨-, -, -, g3⟩ := pool_four s5 hlt; have f3 := pool_frozen s5 (off + k * 4 + 3); have s6 := pool_setr s5 hlt 1; rw [updB_two] at s6; obtain ⟨-, g1, -, -⟩ := pool_four s6 hlt; simp only [updB_self] at e2 g3 g1; have q0 := (pool_box s6 0 rfl).two; have z0 := (pool_box s6 0 rfl).frozen 0; have s7 := pool_box_set s6 0 rfl 0 (.int .i64 k); have q1 := (pool_box s7 0 rfl).two; have z1 := (pool_box s7 0 rfl).frozen 1; have s8 := pool_box_set s7 0 rfl 1 (.int .u64 (st k).gen); have q2 := (pool_box s8 0 rfl).two)
            simp only [updB_self] at s8
            refine bodyPost_ret (v := .tuple #[.agg #[.int .i64 k, .int .u64 (st k).gen], .int .i64 0]) ?_ rfl ⟨rfl, pool_end (st := updB st k (got (st k))) s8⟩
            simp [results, go_sem, q2.1, q2.2]
          · have d3 : decide (((st k).bs.length : Int) < z) = true := decide_eq_true (by omega)
            have HNO := Lib.hid (show ∀ j, j < k + 1 → ¬ fit st z j from fun j hj => by
              by_cases e : j = k
              · rw [e]; exact fun hh => hf hh.2
              · exact hno j (by omega))
            rw [ho] at e2
            have SR := Lib.hid sr
            clear sr h hno e1 e3 ho
            generalize (st k).bs.length = lk at *
            go_wp2_with fail
            go_roundw
            case rel => exact ⟨k + 1, by omega, by go_num, HNO.out, SR.out⟩
            case measure => simp [intOf]; omega
        · have z0 : ((st k).owner != 0) = true := by simp [bne, ho]
          have HNO := Lib.hid (show ∀ j, j < k + 1 → ¬ fit st z j from fun j hj => by
              by_cases e : j = k
              · rw [e]; exact fun hh => ho hh.1
              · exact hno j (by omega))
          have SR := Lib.hid sr
          clear sr h hno e1 e3 ho
          generalize (st k).owner = ow at *
          go_wp2_with fail
          go_roundw
          case rel => exact ⟨k + 1, by omega, by go_num, HNO.out, SR.out⟩
          case measure => simp [intOf]; omega
      · obtain rfl : k = n' + 1 := by omega
        obtain ⟨rfl, rfl, rfl, rfl⟩ : x = 0 ∧ g = 0 ∧ c = 5 ∧ st' = st := by
          rcases h with ⟨h, -⟩ | ⟨-, -, h⟩ | ⟨-, i, hi, hj, hfi, h⟩
          · exact absurd hz h
          · exact h
          · exact absurd hfi (hno i hi)
        have q0 := (pool_box sr 0 rfl).two
        have z0 := (pool_box sr 0 rfl).frozen 0
        have z1 := (pool_box sr 0 rfl).frozen 1
        have s7 := pool_box_set sr 0 rfl 0 (.int .i64 0)
        have q1 := (pool_box s7 0 rfl).two
        have z2 := (pool_box s7 0 rfl).frozen 1
        have s8 := pool_box_set s7 0 rfl 1 (.int .u64 0)
        have q2 := (pool_box s8 0 rfl).two
        have S8 := Lib.hid s8
        clear s7 s8 sr h hno
        go_wp2_with fail
        refine bodyPost_ret (v := .tuple #[.agg #[.int .i64 0, .int .u64 0], .int .i64 5]) ?_ rfl ⟨rfl, pool_end S8.out⟩
        simp [results, go_sem, q2.1, q2.2]
  · obtain ⟨rfl, rfl, rfl, rfl⟩ : x = 0 ∧ g = 0 ∧ c = 1 ∧ st' = st := by
      rcases h with ⟨-, h⟩ | ⟨h, -⟩ | ⟨h, -⟩
      · exact h
      · exact absurd h hz
      · exact absurd h hz
    by_cases hz1 : 1 ≤ z
    · have d1 : decide (z < 1) = false := decide_eq_false (by omega)
      have d2 : decide ((le : Int) < z) = true := decide_eq_true (by omega)
      clear h hle hz
      go_enter Try.func18, Try.ntmps18
      go_wp2_with fail
      go_quiet (fail)
      go_wp2_with fail
      refine bodyPost_ret (v := .tuple #[.agg #[.int .i64 0, .int .u64 0], .int .i64 1]) ?_ rfl ⟨rfl, pool_end (SD.out _)⟩
      simp [results, go_sem, b0, b1]
    · have d1 : decide (z < 1) = true := decide_eq_true (by omega)
      clear h hle hz
      go_enter Try.func18, Try.ntmps18
      go_wp2_with fail
      go_quiet (fail)
      go_wp2_with fail
      refine bodyPost_ret (v := .tuple #[.agg #[.int .i64 0, .int .u64 0], .int .i64 1]) ?_ rfl ⟨rfl, pool_end (SD.out _)⟩
      simp [results, go_sem, b0, b1]
end
end Go.Proofs.Ytiaojhjghededaa
