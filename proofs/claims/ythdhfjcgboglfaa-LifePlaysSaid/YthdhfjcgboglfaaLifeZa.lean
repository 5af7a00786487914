/- Layer 19: the document's own book in memory: requests as they stand; find. Printed by bin/genLifeRef.py. -/
import Derived.Test.YthdhfjcgboglfaaLifeM
import Derived.Deep.RegionLaw
import Derived.Deep.QuietTactic
import Derived.BigQuiet
namespace Go.Proofs.Ythdhfjcgboglfaa
open Go.RowKit
set_option linter.unusedVariables false
set_option maxRecDepth 100000
set_option maxHeartbeats 1000000
def tvs : List (Int × Int) → List Value
  | [] => []
  | x :: t => .int .i64 x.1 :: .int .u64 x.2 :: tvs t
theorem tvs_len : ∀ l, (tvs l).length = l.length * 2
  | [] => rfl
  | x :: t => by simp only [tvs, List.length_cons, tvs_len t]; omega
theorem tvs_app : ∀ l m, tvs (l ++ m) = tvs l ++ tvs m
  | [], m => rfl
  | x :: t, m => by simp only [tvs, List.cons_append, tvs_app t m]
theorem tvs_at : ∀ {l : List (Int × Int)} {i : Nat} {x : Int × Int}, l[i]? = some x → (tvs l)[i * 2]? = some (.int .i64 x.1) ∧ (tvs l)[i * 2 + 1]? = some (.int .u64 x.2)
  | [], i, x, h => by simp at h
  | a :: t, 0, x, h => by
    obtain rfl : a = x := by simpa using h
    exact ⟨rfl, rfl⟩
  | a :: t, i + 1, x, h => by
    have h : t[i]? = some x := by simpa using h
    have := tvs_at h
    rw [show (i + 1) * 2 = i * 2 + 1 + 1 by omega]
    exact this
theorem tvs_take : ∀ (l : List (Int × Int)) (i : Nat), (tvs l).take (i * 2) = tvs (l.take i)
  | [], i => by simp [tvs]
  | a :: t, 0 => by simp [tvs]
  | a :: t, i + 1 => by
    rw [show (i + 1) * 2 = i * 2 + 1 + 1 by omega]
    simp only [tvs, List.take_succ_cons, tvs_take t i]
theorem tvs_drop : ∀ (l : List (Int × Int)) (i : Nat), (tvs l).drop (i * 2) = tvs (l.drop i)
  | [], i => by simp [tvs]
  | a :: t, 0 => by simp [tvs]
  | a :: t, i + 1 => by
    rw [show (i + 1) * 2 = i * 2 + 1 + 1 by omega]
    simp only [tvs, List.drop_succ_cons, tvs_drop t i]
theorem tvs_one : ∀ l, ∀ u ∈ tvs l, u.oneCell' = true
  | [], u, h => by simp [tvs] at h
  | x :: t, u, h => by
    simp only [tvs, List.mem_cons] at h
    rcases h with rfl | rfl | h
    · rfl
    · rfl
    · exact tvs_one t u h
def RBXL (r : Nat) (A : Option Addr) (c : Nat) (cost now : Int) (FV : Value) (X : Res) (l : List (Int × Int)) : List Res := [X, BlkR r 33 #[.int .u64 cost, .int .u64 now, .slice A l.length c, FV], LisR 45 2 (.slice A l.length c) l.length (tvs l)]
def RBX (r : Nat) (cost now : Int) (FV : Value) (X : Res) (l : List (Int × Int)) : Res := fun w S => ∃ A c, Star (RBXL r A c cost now FV X l) w S
theorem RBX.ok (r : Nat) (cost now : Int) (FV : Value) (X : Res) (l : List (Int × Int)) : Ok (RBX r cost now FV X l) :=
  ⟨fun ⟨A, c, h⟩ b hb => (Star.ok _).lt h b hb, fun ⟨A, c, h⟩ hk => ⟨A, c, (Star.ok _).frame h hk⟩⟩
/-- Where a number stands. -/
def FindT (l : List (Int × Int)) (id z : Int) : Prop := (z = -1 ∧ ∀ x, x ∈ l → x.1 ≠ id) ∨ ∃ (i : Nat) (x : Int × Int), z = (i : Int) ∧ l[i]? = some x ∧ x.1 = id
section
variable {w0 w w' : World} {S0 S : Nat → Prop} {L : List Res} {r : Nat} {cost now : Int} {FV : Value} {X : Res} {l : List (Int × Int)}
theorem tm_cell {A : Option Addr} {c i : Nat} {x : Int × Int} (h : Lis w 45 2 (.slice A l.length c) l.length (tvs l)) (hx : l[i]? = some x) : ∃ b off, A = some ⟨b, off, none⟩ ∧ w.cell? ⟨b, off + i * 2, none⟩ = some (.int .i64 x.1) ∧ w.cell? ⟨b, off + i * 2 + 1, none⟩ = some (.int .u64 x.2) := by
  have hi := (List.getElem?_eq_some_iff.1 hx).1
  rcases h.reads.2 with h0 | ⟨b, off, rfl, hc⟩
  · omega
  · have := tvs_at hx
    exact ⟨b, off, rfl, hc _ _ this.1, by rw [Nat.add_assoc]; exact hc _ _ this.2⟩
theorem rbfind_c (h : RBX r cost now FV X l w S) (hl : l.length ≤ 1000) (id : Int) :
    Calls Try.prog 28 #[.pointer (some ⟨r, 0, none⟩), .int .i64 id] w fun e w' => (∃ z, e = .returned (.int .i64 z) ∧ FindT l id z) ∧ w' = w := by
  obtain ⟨A, c, hr⟩ := h
  have s0 := St.start hr
  have q0 := (s0.blk 1 rfl).four.2.2.1
  have ls := s0.lis 2 rfl
  have LS := Lib.hid ls
  obtain ⟨n, hn⟩ : ∃ n, l.length = n := ⟨_, rfl⟩
  rw [hn] at q0 hl
  have HN := Lib.hid hn
  clear hr s0 ls hn
  go_enter Try.func28, Try.ntmps28
  go_wp2_with fail
  go_loopw [5] (fun x wr => ∃ k : Nat, k ≤ n ∧ x = .int .i64 (k : Int) ∧ (∀ j x, j < k → l[j]? = some x → x.1 ≠ id) ∧ wr = w) (fun x _ => n - (intOf x).toNat)
  case atStart => exact ⟨0, by omega, rfl, fun j x hj => by omega, rfl⟩
  case round =>
    obtain ⟨k, hk, rfl, hall, rfl⟩ := hrel
    have HA := Lib.hid hall
    clear hall
    by_cases hlt : k < n
    · obtain ⟨x, hx⟩ : ∃ x, l[k]? = some x := ⟨l[k]'(by have := HN.out; omega), List.getElem?_eq_getElem _⟩
      obtain ⟨b, off, rfl, m0, m1⟩ := tm_cell LS.out hx
      have HX := Lib.hid hx
      obtain ⟨x1, x2⟩ := x
      dsimp only at m0 m1
      clear hx
      by_cases e : x1 = id
      · have q1 : (x1 == id) = true := beq_iff_eq.2 e
        have HE := Lib.hid e
        clear e
        go_wp2_with fail
        go_ret
        exact ⟨⟨k, rfl, Or.inr ⟨k, _, rfl, HX.out, HE.out⟩⟩, rfl⟩
      · have q1 : (x1 == id) = false := beq_eq_false_iff_ne.2 e
        have HE := Lib.hid e
        clear e
        go_wp2_with fail
        go_roundw
        case rel =>
          refine ⟨k + 1, by omega, by go_num, fun j y hj hy => ?_, by first | rfl | trivial⟩
          by_cases e : j = k
          · subst e
            have := HX.out.symm.trans hy
            injection this with this
            subst this
            exact HE.out
          · exact HA.out j y (by omega) hy
        case measure => simp [intOf]; omega
    · obtain rfl : k = n := by omega
      go_wp2_with fail
      go_ret
      refine ⟨⟨-1, rfl, Or.inl ⟨rfl, fun x hx => ?_⟩⟩, rfl⟩
      obtain ⟨j, hj, e⟩ := List.mem_iff_getElem.1 hx
      exact HA.out j x (by have := HN.out; omega) (by rw [← e]; exact List.getElem?_eq_getElem _)
end
end Go.Proofs.Ythdhfjcgboglfaa
