/- Layer 15: the program's queue: New, may, has. -/
import Derived.Test.YtdemhhmceiaohaaRows
import Derived.Test.YtdemhhmceiaohaaReadyM
import Derived.WalkKit
import Derived.Lib.Hide
import Derived.LoopTactic
import Derived.IntWalk
import Derived.WalkMore
namespace Go.Proofs.Ytdemhhmceiaohaa
open Go.RowKit
set_option linter.unusedVariables false
set_option maxRecDepth 100000
set_option maxHeartbeats 1000000
theorem may_c (id p : Int) (w : World) (b : Bool) (hb : b = decide (mayQ id p)) :
    Calls Try.prog 56 #[.int .i64 id, .int .i64 p] w fun e w' => e = .returned (.bool b) ∧ w' = w := by
  by_cases h0 : 0 ≤ id
  case neg =>
    have d0 : decide (0 ≤ id) = false := decide_eq_false h0
    obtain rfl : b = false := by rw [hb]; exact decide_eq_false fun h => by unfold mayQ at h; omega
    clear hb
    go_enter Try.func56, Try.ntmps56
    go_wp2_with fail
    go_ret
    exact ⟨rfl, rfl⟩
  have d0 : decide (0 ≤ id) = true := decide_eq_true h0
  by_cases h1 : id < 64
  case neg =>
    have d1 : decide (id < 64) = false := decide_eq_false h1
    obtain rfl : b = false := by rw [hb]; exact decide_eq_false fun h => by unfold mayQ at h; omega
    clear hb
    go_enter Try.func56, Try.ntmps56
    go_wp2_with fail
    go_ret
    exact ⟨rfl, rfl⟩
  have d1 : decide (id < 64) = true := decide_eq_true h1
  by_cases h2 : 0 ≤ p
  case neg =>
    have d2 : decide (0 ≤ p) = false := decide_eq_false h2
    obtain rfl : b = false := by rw [hb]; exact decide_eq_false fun h => by unfold mayQ at h; omega
    clear hb
    go_enter Try.func56, Try.ntmps56
    go_wp2_with fail
    go_ret
    exact ⟨rfl, rfl⟩
  have d2 : decide (0 ≤ p) = true := decide_eq_true h2
  by_cases h3 : p < 101
  case neg =>
    have d3 : decide (p < 101) = false := decide_eq_false h3
    obtain rfl : b = false := by rw [hb]; exact decide_eq_false fun h => by unfold mayQ at h; omega
    clear hb
    go_enter Try.func56, Try.ntmps56
    go_wp2_with fail
    go_ret
    exact ⟨rfl, rfl⟩
  have d3 : decide (p < 101) = true := decide_eq_true h3
  obtain rfl : b = true := by rw [hb]; exact decide_eq_true (by unfold mayQ; omega)
  clear hb
  go_enter Try.func56, Try.ntmps56
  go_wp2_with fail
  go_ret
  exact ⟨rfl, rfl⟩
section
variable {w0 w : World} {S0 S : Nat → Prop} {L : List Res} {q : Nat} {v : Nat → Value} {s s' : QS}
theorem que_lst (H : St w0 S0 w (QueL q v s)) {p : Nat} (hp : p < 101) : Lis w 3 1 (v p) (s.lst p).length (ivs (s.lst p)) :=
  H.lis (1 + p) (fam_at [ArrR q 120 229 (qV v s)] (lsR v s.lst) hp)
theorem que_cell (H : St w0 S0 w (QueL q v s)) {i : Nat} (hi : i < 229) : w.cell? ⟨q, i, none⟩ = some (qV v s i) := H.arr_cell 0 rfl hi
theorem que_frozen (H : St w0 S0 w (QueL q v s)) (i : Nat) : w.frozen? ⟨q, i, none⟩ = false := H.arr_frozen 0 rfl i
theorem has_c (H : St w0 S0 w (QueL q v s)) (id : Int) (b : Bool) (hb : b = decide (hasQ s id)) :
    Calls Try.prog 57 #[.pointer (some ⟨q, 0, none⟩), .int .i64 id] w fun e w' => e = .returned (.bool b) ∧ w' = w := by
  by_cases h0 : 0 ≤ id
  case neg =>
    have d0 : decide (0 ≤ id) = false := decide_eq_false h0
    obtain rfl : b = false := by rw [hb]; exact decide_eq_false fun h => by unfold hasQ at h; omega
    clear hb
    go_enter Try.func57, Try.ntmps57
    go_wp2_with fail
    go_ret
    exact ⟨rfl, rfl⟩
  have d0 : decide (0 ≤ id) = true := decide_eq_true h0
  by_cases h1 : id < 64
  case neg =>
    have d1 : decide (id < 64) = false := decide_eq_false h1
    obtain rfl : b = false := by rw [hb]; exact decide_eq_false fun h => by unfold hasQ at h; omega
    clear hb
    go_enter Try.func57, Try.ntmps57
    go_wp2_with fail
    go_ret
    exact ⟨rfl, rfl⟩
  have d1 : decide (id < 64) = true := decide_eq_true h1
  obtain ⟨j, rfl⟩ : ∃ j : Nat, (j : Int) = id := ⟨id.toNat, by omega⟩
  have c0 := que_cell H (i := 101 + j * 2) (by omega)
  rw [qV_there] at c0
  have hb2 : (s.pr j).isSome = b := by
    have hi : hasQ s j ↔ (s.pr j).isSome = true := ⟨fun h => by have := h.2; rwa [Int.toNat_natCast] at this, fun h => ⟨⟨h0, h1⟩, by rw [Int.toNat_natCast]; exact h⟩⟩
    rw [hb]
    cases hs : (s.pr j).isSome with
    | true => exact (decide_eq_true (hi.2 hs)).symm
    | false => exact (decide_eq_false fun h => by rw [hi.1 h] at hs; cases hs).symm
  rw [hb2] at c0
  clear hb hb2
  go_enter Try.func57, Try.ntmps57
  go_wp2_with fail
  go_ret
  exact ⟨rfl, rfl⟩
def qZ : Array Value := ((List.range 229).map (qV (fun _ => .slice none 0 0) QS.new)).toArray
theorem zero_q (w : World) : (zeroValue 120).run Try.prog w = .ok (.agg qZ) w := by kernel_rfl
theorem New_o (H : St w0 S0 w L) :
    Calls Try.prog 26 #[] w fun e w' => ∃ q, e = .returned (.pointer (some ⟨q, 0, none⟩)) ∧ St w0 S0 w' (L ++ [QueR q QS.new]) := by
  have zq := zero_q
  have s1 := H.box_arr 120 qZ 229 (qV (fun _ => .slice none 0 0) QS.new) (by simp [qZ]) (fun i hi => by simp [qZ, hi])
  have nl : ∀ (k : Nat) {w0 w : World} {S0 : Nat → Prop} {L : List Res}, St w0 S0 w L → St w0 S0 w (L ++ (List.range k).map (lsR (fun _ => .slice none 0 0) QS.new.lst)) := by
    intro k
    induction k with
    | zero => intro w0 w S0 L h; simpa using h
    | succ k ih =>
      intro w0 w S0 L h
      rw [List.range_succ, List.map_append, ← List.append_assoc]
      exact (ih h).lis_nil 3 1
  have s2 := nl 101 s1
  rw [List.append_assoc] at s2
  have s3 := s2.fold (R := QueR w.heap.size QS.new) (QueR.ok _ _) fun S h => ⟨_, h⟩
  have S3 := Lib.hid s3
  clear s1 s2 s3 nl H
  go_enter Try.func26, Try.ntmps26
  go_wp2_with fail
  go_ret
  exact ⟨_, rfl, S3.out⟩
end
end Go.Proofs.Ytdemhhmceiaohaa
