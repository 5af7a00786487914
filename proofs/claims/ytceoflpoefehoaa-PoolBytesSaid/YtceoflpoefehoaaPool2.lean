/- Layer 7: a pool of two buffers. -/
import Derived.Test.YtceoflpoefehoaaPool1
namespace Go.Proofs.Ytceoflpoefehoaa
open Go.RowKit
set_option linter.unusedVariables false
set_option maxRecDepth 100000
set_option maxHeartbeats 800000
def two (a b : Buf) : Nat → Buf := fun i => if i = 0 then a else b
theorem two_0 (a b : Buf) : two a b 0 = a := rfl
theorem two_1 (a b : Buf) : two a b 1 = b := rfl
theorem two_upd0 (p : Nat) (a b a' : Buf) : PoolR p 2 (updB (two a b) 0 a') = PoolR p 2 (two a' b) := PoolR_like fun i hi => by
  rcases (show i = 0 ∨ i = 1 by omega) with rfl | rfl <;> rfl
theorem two_upd1 (p : Nat) (a b b' : Buf) : PoolR p 2 (updB (two a b) 1 b') = PoolR p 2 (two a b') := PoolR_like fun i hi => by
  rcases (show i = 0 ∨ i = 1 by omega) with rfl | rfl <;> rfl
theorem two_fresh (p m : Nat) : PoolR p 2 (fresh [m, m]) = PoolR p 2 (two ⟨1, 0, 0, List.replicate m 0⟩ ⟨1, 0, 0, List.replicate m 0⟩) := PoolR_like fun i hi => by
  rcases (show i = 0 ∨ i = 1 by omega) with rfl | rfl <;> rfl
theorem two_ok {a b : Buf} {G : Int} (ha : a.ok G) (hb : b.ok G) (hG : G < 9223372036854775807) : POK 2 (two a b) G := ⟨by omega, by omega, hG, fun i hi => by
  rcases (show i = 0 ∨ i = 1 by omega) with rfl | rfl
  · exact ha
  · exact hb⟩
theorem two_via0 {a b a' : Buf} {B : Buf → Int → Buf → Prop} {c : Int} (ho : a.owner ≠ 0) (h : B a c a') : Via 2 (two a b) 0 a.gen B c (updB (two a b) 0 a') := Or.inr ⟨0, a', by omega, rfl, ho, rfl, h, rfl⟩
theorem two_via1 {a b b' : Buf} {B : Buf → Int → Buf → Prop} {c : Int} (ho : b.owner ≠ 0) (h : B b c b') : Via 2 (two a b) 1 b.gen B c (updB (two a b) 1 b') := Or.inr ⟨1, b', by omega, rfl, ho, rfl, h, rfl⟩
section
variable {w0 w : World} {S S0 : Nat → Prop} {N L : List Res} {p i : Nat} {a b a' b' : Buf} {G c : Int}
theorem write_20 (H : St w0 S0 w L) (i : Nat) (hi : L[i]? = some (PoolR p 2 (two a b))) (oa : a.ok 1000) (ob : b.ok 1000) (ho : a.owner ≠ 0) {by' at' : Int} {xs : List Int} (h : WriteB by' at' xs a c a') {A : Option Addr} {cp : Nat} (hx : xs.length ≤ maxLen) (hr : Rds w A xs.length 1 (bys xs)) :
    Calls Try.prog 17 #[.pointer (some ⟨p, 0, none⟩), .agg #[.int .i64 0, .int .u64 a.gen], .int .i64 by', .int .i64 at', .slice A xs.length cp] w fun e w' => e = .returned (.int .i64 c) ∧ St w0 S0 w' (L.set i (PoolR p 2 (two a' b))) := by
  have := write_o H i hi (two_ok oa ob (by omega)) (two_via0 ho h) (A := A) (cp := cp) hx hr
  rwa [two_upd0] at this
theorem write_21 (H : St w0 S0 w L) (i : Nat) (hi : L[i]? = some (PoolR p 2 (two a b))) (oa : a.ok 1000) (ob : b.ok 1000) (ho : b.owner ≠ 0) {by' at' : Int} {xs : List Int} (h : WriteB by' at' xs b c b') {A : Option Addr} {cp : Nat} (hx : xs.length ≤ maxLen) (hr : Rds w A xs.length 1 (bys xs)) :
    Calls Try.prog 17 #[.pointer (some ⟨p, 0, none⟩), .agg #[.int .i64 1, .int .u64 b.gen], .int .i64 by', .int .i64 at', .slice A xs.length cp] w fun e w' => e = .returned (.int .i64 c) ∧ St w0 S0 w' (L.set i (PoolR p 2 (two a b'))) := by
  have := write_o H i hi (two_ok oa ob (by omega)) (two_via1 ho h) (A := A) (cp := cp) hx hr
  rwa [two_upd1] at this
theorem read_20 (H : St w0 S0 w L) (i : Nat) (hi : L[i]? = some (PoolR p 2 (two a b))) (oa : a.ok 1000) (ob : b.ok 1000) (ho : a.owner ≠ 0) {at' m : Int} {xs : List Int} (h : ReadB at' m a xs c) :
    Calls Try.prog 22 #[.pointer (some ⟨p, 0, none⟩), .agg #[.int .i64 0, .int .u64 a.gen], .int .i64 at', .int .i64 m] w fun e w' => ∃ B cp, e = .returned (.tuple #[.slice B xs.length cp, .int .i64 c]) ∧ St w0 S0 w' (L.set i (PoolR p 2 (two a b)) ++ [LisR 5 1 (.slice B xs.length cp) xs.length (bys xs)]) :=
  read_o H i hi (two_ok oa ob (by omega)) (Or.inr ⟨0, by omega, rfl, ho, rfl, h⟩)
theorem read_21 (H : St w0 S0 w L) (i : Nat) (hi : L[i]? = some (PoolR p 2 (two a b))) (oa : a.ok 1000) (ob : b.ok 1000) (ho : b.owner ≠ 0) {at' m : Int} {xs : List Int} (h : ReadB at' m b xs c) :
    Calls Try.prog 22 #[.pointer (some ⟨p, 0, none⟩), .agg #[.int .i64 1, .int .u64 b.gen], .int .i64 at', .int .i64 m] w fun e w' => ∃ B cp, e = .returned (.tuple #[.slice B xs.length cp, .int .i64 c]) ∧ St w0 S0 w' (L.set i (PoolR p 2 (two a b)) ++ [LisR 5 1 (.slice B xs.length cp) xs.length (bys xs)]) :=
  read_o H i hi (two_ok oa ob (by omega)) (Or.inr ⟨1, by omega, rfl, ho, rfl, h⟩)
theorem get_20 (H : St w0 S0 w L) (i : Nat) (hi : L[i]? = some (PoolR p 2 (two a b))) (oa : a.ok 1000) (ob : b.ok 1000) (ho : a.owner = 0) {z : Int} (hz : 1 ≤ z ∧ z ≤ (a.bs.length : Nat)) (hz2 : z ≤ (b.bs.length : Nat)) :
    Calls Try.prog 13 #[.pointer (some ⟨p, 0, none⟩), .int .i64 z] w fun e w' => e = .returned (.tuple #[.agg #[.int .i64 0, .int .u64 a.gen], .int .i64 0]) ∧ St w0 S0 w' (L.set i (PoolR p 2 (two (got a) b))) := by
  have := get_o H i hi (two_ok oa ob (by omega)) (z := z) (x := 0) (g := a.gen) (c := 0) (st' := updB (two a b) 0 (got a)) (Or.inr (Or.inr ⟨⟨hz.1, hz2⟩, 0, by omega, fun j h => absurd h (by omega), ⟨ho, hz.2⟩, rfl, rfl, rfl, rfl⟩))
  rwa [two_upd0] at this
theorem get_21 (H : St w0 S0 w L) (i : Nat) (hi : L[i]? = some (PoolR p 2 (two a b))) (oa : a.ok 1000) (ob : b.ok 1000) (hn : a.owner ≠ 0) (ho : b.owner = 0) {z : Int} (hz : 1 ≤ z ∧ z ≤ (b.bs.length : Nat)) :
    Calls Try.prog 13 #[.pointer (some ⟨p, 0, none⟩), .int .i64 z] w fun e w' => e = .returned (.tuple #[.agg #[.int .i64 1, .int .u64 b.gen], .int .i64 0]) ∧ St w0 S0 w' (L.set i (PoolR p 2 (two a (got b)))) := by
  have := get_o H i hi (two_ok oa ob (by omega)) (z := z) (x := 1) (g := b.gen) (c := 0) (st' := updB (two a b) 1 (got b)) (Or.inr (Or.inr ⟨⟨hz.1, by show z ≤ (b.bs.length : Nat); exact hz.2⟩, 1, by omega, fun j h => by
    obtain rfl : j = 0 := by omega
    exact fun h => hn h.1, ⟨ho, hz.2⟩, rfl, rfl, rfl, rfl⟩))
  rwa [two_upd1] at this
/-- Zeros against a fresh row of zeros. -/
theorem zero_same {B : Option Addr} {n cap g : Nat} (H : St w0 S0 w (L ++ [ArrR g 5 n (fun _ => .int .u8 0)])) (i : Nat) (hi : L[i]? = some (LisR 5 1 (.slice B n cap) n (bys (List.replicate n 0)))) (hn : n ≤ maxLen) :
    Calls Try.prog 23 #[.slice B n cap, .slice (some ⟨g, 0, none⟩) n n] w fun e w' => e = .returned (.bool true) ∧ St w0 S0 w' L := by
  have hlt : i < L.length := by
    rcases Nat.lt_or_ge i L.length with h | h
    · exact h
    · rw [List.getElem?_eq_none h] at hi; cases hi
  have l1 := rd_bys (H.lis i (by rw [List.getElem?_append_left hlt]; exact hi))
  have hg : (L ++ [ArrR g 5 n (fun _ => .int .u8 0)])[L.length]? = some (ArrR g 5 n (fun _ => .int .u8 0)) := by simp
  have l2 : Rd w (some ⟨g, 0, none⟩) n (fun _ => .int .u8 0) := fun h0 => ⟨g, 0, rfl, H.arr_lt _ hg, fun j hj => by
    have := H.arr_cell _ hg hj
    simpa using this⟩
  have q := looks (same_eq (cap := cap) (cap2 := n) l1 l2 hn true (by
    refine (decide_eq_true ?_).symm
    intro j hj
    simp [List.getD, hj])) H
  refine q.mono fun e w' h => ⟨h.1, ?_⟩
  have := h.2.take L.length
  simpa using this
/-- A pool of one class, and two buffers. -/
theorem new_2 (m : Nat) (hm : 1 ≤ m ∧ m ≤ 65536) {q : Nat} (H : St w0 S0 w L) (hq : Blk w q 51 #[.int .i64 m, .int .i64 2]) :
    Calls Try.prog 12 #[.slice (some ⟨q, 0, none⟩) 1 1] w fun e w' => ∃ p, e = .returned (.tuple #[.pointer (some ⟨p, 0, none⟩), .int .i64 0]) ∧ St w0 S0 w' (L ++ [PoolR p 2 (two ⟨1, 0, 0, List.replicate m 0⟩ ⟨1, 0, 0, List.replicate m 0⟩)]) := by
  have h := new_o H (rdm_blk (k := 1) (m := 2) hq rfl) (Z := fun _ => (m : Int)) (C := fun _ => 2) (cap := 1) (fun j hj => by
    obtain rfl : j = 0 := by omega
    exact ⟨rfl, rfl, ⟨by dsimp only; omega, by dsimp only; omega⟩, by decide⟩) (by
    refine ⟨by decide, fun k hk => ?_⟩
    obtain rfl : k = 0 := by omega
    show (0 : Int) < (m : Int) ∧ (m : Int) ≤ 65536 ∧ (1 : Int) ≤ 2 ∧ (2 : Int) ≤ 100
    omega)
  have e : flatC (fun _ => (m : Int)) (fun _ => 2) 1 = [m, m] := by simp [flatC, List.replicate]
  rw [e] at h
  refine h.mono fun e w' hp => ?_
  obtain ⟨p, he, hs⟩ := hp
  refine ⟨p, he, ?_⟩
  rw [← two_fresh]
  exact hs
end
end Go.Proofs.Ytceoflpoefehoaa
