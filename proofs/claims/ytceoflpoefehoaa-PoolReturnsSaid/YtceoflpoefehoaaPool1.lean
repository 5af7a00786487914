/- Layer 7: a pool of one buffer. -/
import Derived.Test.YtceoflpoefehoaaPoolQ
namespace Go.Proofs.Ytceoflpoefehoaa
open Go.RowKit
set_option linter.unusedVariables false
set_option maxRecDepth 100000
set_option maxHeartbeats 800000
theorem PoolR_like {p n : Nat} {st st' : Nat → Buf} (h : ∀ i, i < n → st i = st' i) : PoolR p n st = PoolR p n st' := by
  have e : ∀ bb off cap bp, PoolL p bb off cap bp n st = PoolL p bb off cap bp n st' := fun bb off cap bp => by
    unfold PoolL
    rw [grid_like (V := bv st bp) (V' := bv st' bp) fun j k hj hk => by
      rcases (show k = 0 ∨ k = 1 ∨ k = 2 ∨ k = 3 by omega) with rfl | rfl | rfl | rfl <;> simp [bv, h j hj], fam_like (R := fun i => BR (bp i) (st i).bs) (R' := fun i => BR (bp i) (st' i).bs) fun i hi => by rw [h i hi]]
  unfold PoolR
  funext w S
  simp only [e]
def one (b : Buf) : Nat → Buf := fun _ => b
theorem one_upd (p : Nat) (b b' : Buf) : PoolR p 1 (updB (one b) 0 b') = PoolR p 1 (one b') := PoolR_like fun i hi => by
  obtain rfl : i = 0 := by omega
  rw [updB_self]; rfl
theorem one_fresh (p m : Nat) : PoolR p 1 (fresh [m]) = PoolR p 1 (one ⟨1, 0, 0, List.replicate m 0⟩) := PoolR_like fun i hi => by
  obtain rfl : i = 0 := by omega
  rfl
theorem one_ok {b : Buf} {G : Int} (h : b.ok G) (hG : G < 9223372036854775807) : POK 1 (one b) G := ⟨by omega, by omega, hG, fun i hi => h⟩
theorem one_via {b b' : Buf} {B : Buf → Int → Buf → Prop} {c : Int} (ho : b.owner ≠ 0) (h : B b c b') : Via 1 (one b) 0 b.gen B c (updB (one b) 0 b') := Or.inr ⟨0, b', by omega, rfl, ho, rfl, h, rfl⟩
section
variable {w0 w : World} {S S0 : Nat → Prop} {N L : List Res} {p i : Nat} {b b' : Buf} {G c : Int}
theorem share_1 (H : St w0 S0 w L) (i : Nat) (hi : L[i]? = some (PoolR p 1 (one b))) (ok : b.ok 1000) (ho : b.owner ≠ 0) (h : ShareB b c b') :
    Calls Try.prog 14 #[.pointer (some ⟨p, 0, none⟩), .agg #[.int .i64 0, .int .u64 b.gen]] w fun e w' => e = .returned (.int .i64 c) ∧ St w0 S0 w' (L.set i (PoolR p 1 (one b'))) := by
  have := share_o H i hi (one_ok ok (by omega)) (one_via ho h)
  rwa [one_upd] at this
theorem drop_1 (H : St w0 S0 w L) (i : Nat) (hi : L[i]? = some (PoolR p 1 (one b))) (ok : b.ok 1000) (ho : b.owner ≠ 0) (h : DropB b c b') :
    Calls Try.prog 15 #[.pointer (some ⟨p, 0, none⟩), .agg #[.int .i64 0, .int .u64 b.gen]] w fun e w' => e = .returned (.int .i64 c) ∧ St w0 S0 w' (L.set i (PoolR p 1 (one b'))) := by
  have := drop_o H i hi (one_ok ok (by omega)) (one_via ho h)
  rwa [one_upd] at this
theorem give_1 (H : St w0 S0 w L) (i : Nat) (hi : L[i]? = some (PoolR p 1 (one b))) (ok : b.ok 1000) (ho : b.owner ≠ 0) {a z : Int} (h : GiveB a z b c b') :
    Calls Try.prog 16 #[.pointer (some ⟨p, 0, none⟩), .agg #[.int .i64 0, .int .u64 b.gen], .int .i64 a, .int .i64 z] w fun e w' => e = .returned (.int .i64 c) ∧ St w0 S0 w' (L.set i (PoolR p 1 (one b'))) := by
  have := give_o H i hi (one_ok ok (by omega)) (one_via ho h)
  rwa [one_upd] at this
theorem write_1 (H : St w0 S0 w L) (i : Nat) (hi : L[i]? = some (PoolR p 1 (one b))) (ok : b.ok 1000) (ho : b.owner ≠ 0) {by' at' : Int} {xs : List Int} (h : WriteB by' at' xs b c b') {A : Option Addr} {cp : Nat} (hx : xs.length ≤ maxLen) (hr : Rds w A xs.length 1 (bys xs)) :
    Calls Try.prog 17 #[.pointer (some ⟨p, 0, none⟩), .agg #[.int .i64 0, .int .u64 b.gen], .int .i64 by', .int .i64 at', .slice A xs.length cp] w fun e w' => e = .returned (.int .i64 c) ∧ St w0 S0 w' (L.set i (PoolR p 1 (one b'))) := by
  have := write_o H i hi (one_ok ok (by omega)) (one_via ho h) (A := A) (cp := cp) hx hr
  rwa [one_upd] at this
theorem owner_1 (H : St w0 S0 w L) (i : Nat) (hi : L[i]? = some (PoolR p 1 (one b))) (ok : b.ok 1000) (ho : b.owner ≠ 0) :
    Calls Try.prog 18 #[.pointer (some ⟨p, 0, none⟩), .agg #[.int .i64 0, .int .u64 b.gen]] w fun e w' => e = .returned (.tuple #[.int .i64 b.owner, .int .i64 b.refs, .int .i64 0]) ∧ St w0 S0 w' (L.set i (PoolR p 1 (one b))) :=
  owner_o H i hi (one_ok ok (by omega)) (Or.inr ⟨0, by omega, rfl, ho, rfl, rfl, rfl, rfl⟩)
theorem read_1 (H : St w0 S0 w L) (i : Nat) (hi : L[i]? = some (PoolR p 1 (one b))) (ok : b.ok 1000) (ho : b.owner ≠ 0) {at' m : Int} {xs : List Int} (h : ReadB at' m b xs c) :
    Calls Try.prog 22 #[.pointer (some ⟨p, 0, none⟩), .agg #[.int .i64 0, .int .u64 b.gen], .int .i64 at', .int .i64 m] w fun e w' => ∃ B cp, e = .returned (.tuple #[.slice B xs.length cp, .int .i64 c]) ∧ St w0 S0 w' (L.set i (PoolR p 1 (one b)) ++ [LisR 5 1 (.slice B xs.length cp) xs.length (bys xs)]) :=
  read_o H i hi (one_ok ok (by omega)) (Or.inr ⟨0, by omega, rfl, ho, rfl, h⟩)
theorem free_1 (H : St w0 S0 w L) (i : Nat) (hi : L[i]? = some (PoolR p 1 (one b))) (ok : b.ok 1000) (k : Nat) (hk : k = if b.owner = 0 then 1 else 0) :
    Calls Try.prog 19 #[.pointer (some ⟨p, 0, none⟩)] w fun e w' => e = .returned (.int .i64 k) ∧ St w0 S0 w' (L.set i (PoolR p 1 (one b))) :=
  free_o H i hi (one_ok ok (by omega)) k (by rw [hk]; simp [frees, one]; try rfl)
theorem stale_1 (H : St w0 S0 w L) (i : Nat) (hi : L[i]? = some (PoolR p 1 (one b))) (ok : b.ok 1000) (ho : b.owner = 0) (g : Int) :
    Calls Try.prog 15 #[.pointer (some ⟨p, 0, none⟩), .agg #[.int .i64 0, .int .u64 g]] w fun e w' => e = .returned (.int .i64 3) ∧ St w0 S0 w' (L.set i (PoolR p 1 (one b))) :=
  drop_o H i hi (one_ok ok (by omega)) (Or.inl ⟨fun h => h.2.1 ho, rfl, rfl⟩)
theorem get_1 (H : St w0 S0 w L) (i : Nat) (hi : L[i]? = some (PoolR p 1 (one b))) (ok : b.ok 1000) (ho : b.owner = 0) {z : Int} (hz : 1 ≤ z ∧ z ≤ (b.bs.length : Nat)) :
    Calls Try.prog 13 #[.pointer (some ⟨p, 0, none⟩), .int .i64 z] w fun e w' => e = .returned (.tuple #[.agg #[.int .i64 0, .int .u64 b.gen], .int .i64 0]) ∧ St w0 S0 w' (L.set i (PoolR p 1 (one (got b)))) := by
  have := get_o H i hi (one_ok ok (by omega)) (z := z) (x := 0) (g := b.gen) (c := 0) (st' := updB (one b) 0 (got b)) (Or.inr (Or.inr ⟨hz, 0, by omega, fun j h => absurd h (by omega), ⟨ho, hz.2⟩, rfl, rfl, rfl, rfl⟩))
  rwa [one_upd] at this
/-- A pool of one class, and one buffer. -/
theorem new_1 (m : Nat) (hm : 1 ≤ m ∧ m ≤ 65536) {q : Nat} {k : Nat} (H : St w0 S0 w L) (hq : Blk w q 51 #[.int .i64 m, .int .i64 1]) :
    Calls Try.prog 12 #[.slice (some ⟨q, 0, none⟩) 1 1] w fun e w' => ∃ p, e = .returned (.tuple #[.pointer (some ⟨p, 0, none⟩), .int .i64 0]) ∧ St w0 S0 w' (L ++ [PoolR p 1 (one ⟨1, 0, 0, List.replicate m 0⟩)]) := by
  have h := new_o H (rdm_blk (k := 1) (m := 2) hq rfl) (Z := fun _ => (m : Int)) (C := fun _ => 1) (cap := 1) (fun j hj => by
    obtain rfl : j = 0 := by omega
    exact ⟨rfl, rfl, ⟨by dsimp only; omega, by dsimp only; omega⟩, by decide⟩) (by
    refine ⟨by decide, fun k hk => ?_⟩
    obtain rfl : k = 0 := by omega
    show (0 : Int) < (m : Int) ∧ (m : Int) ≤ 65536 ∧ (1 : Int) ≤ 1 ∧ (1 : Int) ≤ 100
    omega)
  have e : flatC (fun _ => (m : Int)) (fun _ => 1) 1 = [m] := by simp [flatC]
  rw [e] at h
  refine h.mono fun e w' hp => ?_
  obtain ⟨p, he, hs⟩ := hp
  refine ⟨p, he, ?_⟩
  rw [← one_fresh]
  exact hs
end
end Go.Proofs.Ytceoflpoefehoaa
