/- Layer 2: the document's own table: its calls. -/
import Derived.Test.YtlpmnpmgehjmaaaTabR
namespace Go.Proofs.Ytlpmnpmgehjmaaa
open Go.RowKit
set_option linter.unusedVariables false
set_option maxRecDepth 100000
section
variable {n : Nat} {gen gen' : Nat → Int} {st st' : Nat → Option Int} {s c v f x : Int} {r : Nat}
theorem RGet_c (hn : n ≤ 1000) (hR : GetR n gen st s c v f) : ∀ w S, RefR r n gen st w S → Calls Try.prog 16 #[.pointer (some ⟨r, 0, none⟩), .agg #[.int .i64 s, .int .u64 c]] w fun e w' => e = .returned (.tuple #[.int .i64 v, .int .i64 f]) ∧ ∃ S', RefR r n gen st w' S' ∧ Did S S' w w' := by
  rintro w S ⟨gb, ub, vb, V, hV, hs⟩
  have s1 : St w S _ [_, _, _, _, _] := (St.start hs).box 32 #[.int .i64 s, .int .u64 c]
  obtain ⟨b0, b1⟩ := (s1.blk 4 rfl).two
  rcases hR with ⟨i, hi, rfl, rfl, hv, rfl⟩ | ⟨hst, rfl, rfl⟩
  · have LV := Lib.hid (Live_yes (L := [_]) s1 hn i v hi hv)
    have i0 : (0 : Int) ≤ (i : Int) := by omega
    have i1 : (i : Int) < (n : Int) := by omega
    have hvv := hV i hi v hv
    go_enter Try.func16, Try.ntmps16
    go_wp2_with fail
    refine LV.out.mono ?_
    rintro e w1 ⟨rfl, hw1⟩
    have s2 := s1.stay hw1
    clear b0 b1
    obtain ⟨b0, b1⟩ := (s2.blk 4 rfl).two
    obtain ⟨c0, c1, c2⟩ := (s2.blk 0 rfl).three
    have cv := s2.arr_cell 3 rfl hi
    rw [hvv] at cv
    clear LV s1 hvv
    go_wp2_with fail
    go_quiet (fail)
    go_wp2_with fail
    go_ret2
    exact ⟨rfl, ((s2.drewN _).drop 4 (by simp)).fin fun S' h => ⟨gb, ub, vb, V, hV, h⟩⟩
  · have LV := Lib.hid (Live_no (L := [_]) s1 hn hst)
    go_enter Try.func16, Try.ntmps16
    go_wp2_with fail
    refine LV.out.mono ?_
    rintro e w1 ⟨rfl, hw1⟩
    go_wp2_with fail
    go_ret2
    exact ⟨rfl, ((s1.stay hw1).drop 4 (by simp)).fin fun S' h => ⟨gb, ub, vb, V, hV, h⟩⟩
theorem set_val {V : Nat → Int} {i : Nat} {x : Int} (hV : ∀ j, j < n → ∀ v, st j = some v → V j = v) : ∀ j, j < n → ∀ v, (fun j => if j = i then some x else st j) j = some v → (fun j => if j = i then x else V j) j = v := by
  intro j hj v h
  dsimp only at h ⊢
  split at h
  · rename_i e; rw [if_pos e]; injection h
  · rename_i e; rw [if_neg e]; exact hV j hj v h
theorem upd_int {V : Nat → Int} {i : Nat} {x : Int} {k : IntKind} : (fun j => if j = i then Value.int k x else Value.int k (V j)) = fun j => Value.int k ((fun j => if j = i then x else V j) j) := by funext j; dsimp only; split <;> rfl
theorem upd_used {i : Nat} {x : Option Int} : (fun j => if j = i then Value.bool x.isSome else Value.bool (st j).isSome) = fun j => Value.bool ((fun j => if j = i then x else st j) j).isSome := by funext j; dsimp only; split <;> rfl
theorem same_used {i : Nat} {x v : Int} (h : st i = some v) : (fun j => Value.bool (st j).isSome) = fun j => Value.bool ((fun j => if j = i then some x else st j) j).isSome := by
  funext j; dsimp only; split
  · rename_i e; rw [e, h]; rfl
  · rfl
theorem RSet_c (hn : n ≤ 1000) (hR : SetR n gen st s c x f st') : ∀ w S, RefR r n gen st w S → Calls Try.prog 18 #[.pointer (some ⟨r, 0, none⟩), .agg #[.int .i64 s, .int .u64 c], .int .i64 x] w fun e w' => e = .returned (.int .i64 f) ∧ ∃ S', RefR r n gen st' w' S' ∧ Did S S' w w' := by
  rintro w S ⟨gb, ub, vb, V, hV, hs⟩
  have s1 : St w S _ [_, _, _, _, _] := (St.start hs).box 32 #[.int .i64 s, .int .u64 c]
  obtain ⟨b0, b1⟩ := (s1.blk 4 rfl).two
  rcases hR with ⟨i, v, hi, rfl, rfl, hv, rfl, rfl⟩ | ⟨hst, rfl, rfl⟩
  · have LV := Lib.hid (Live_yes (L := [_]) s1 hn i v hi hv)
    have i0 : (0 : Int) ≤ (i : Int) := by omega
    have i1 : (i : Int) < (n : Int) := by omega
    go_enter Try.func18, Try.ntmps18
    go_wp2_with fail
    refine LV.out.mono ?_
    rintro e w1 ⟨rfl, hw1⟩
    have s2 := s1.stay hw1
    clear b0 b1
    obtain ⟨b0, b1⟩ := (s2.blk 4 rfl).two
    obtain ⟨c0, c1, c2⟩ := (s2.blk 0 rfl).three
    have cv := s2.arr_cell 3 rfl hi
    have fv := s2.arr_frozen 3 rfl i
    have s3' := s2.arr_set 3 rfl hi (.int .i64 x)
    rw [upd_int] at s3'
    have S3 := Lib.hid s3'
    have HV := Lib.hid (set_val (i := i) (x := x) hV)
    have HU := Lib.hid (same_used (x := x) hv)
    clear LV s1 s2 hV s3' hv hw1
    generalize V i = vi at *
    go_wp2_with fail
    go_region
    go_wp2_with fail
    go_ret
    exact ⟨rfl, (S3.out.drew.drop 4 (by simp)).fin fun S' h => ⟨gb, ub, vb, _, HV.out, by rw [RefL, ← HU.out]; exact h⟩⟩
  · have LV := Lib.hid (Live_no (L := [_]) s1 hn hst)
    go_enter Try.func18, Try.ntmps18
    go_wp2_with fail
    refine LV.out.mono ?_
    rintro e w1 ⟨rfl, hw1⟩
    go_wp2_with fail
    go_ret
    exact ⟨rfl, ((s1.stay hw1).drop 4 (by simp)).fin fun S' h => ⟨gb, ub, vb, V, hV, h⟩⟩
theorem drop_val {V : Nat → Int} {i : Nat} (hV : ∀ j, j < n → ∀ v, st j = some v → V j = v) : ∀ j, j < n → ∀ v, (fun j => if j = i then none else st j) j = some v → V j = v := by
  intro j hj v h
  dsimp only at h
  split at h
  · cases h
  · exact hV j hj v h
theorem RDrop_c (hn : n ≤ 1000) (hg : ∀ i, i < n → 0 ≤ gen i ∧ gen i < 18446744073709551615) (hR : DropR n gen st s c v f gen' st') : ∀ w S, RefR r n gen st w S → Calls Try.prog 20 #[.pointer (some ⟨r, 0, none⟩), .agg #[.int .i64 s, .int .u64 c]] w fun e w' => e = .returned (.tuple #[.int .i64 v, .int .i64 f]) ∧ ∃ S', RefR r n gen' st' w' S' ∧ Did S S' w w' := by
  rintro w S ⟨gb, ub, vb, V, hV, hs⟩
  have s1 : St w S _ [_, _, _, _, _] := (St.start hs).box 32 #[.int .i64 s, .int .u64 c]
  obtain ⟨b0, b1⟩ := (s1.blk 4 rfl).two
  rcases hR with ⟨i, hi, rfl, rfl, hv, rfl, rfl, rfl⟩ | ⟨hst, rfl, rfl, rfl, rfl⟩
  · have LV := Lib.hid (Live_yes (L := [_]) s1 hn i v hi hv)
    have i0 : (0 : Int) ≤ (i : Int) := by omega
    have i1 : (i : Int) < (n : Int) := by omega
    have hgi := hg i hi
    have hww : IntKind.u64.wrap (gen i + 1) = gen i + 1 := IntWalk.u64_in _ ⟨by omega, by omega⟩
    have hvv := hV i hi v hv
    go_enter Try.func20, Try.ntmps20
    go_wp2_with fail
    refine LV.out.mono ?_
    rintro e w1 ⟨rfl, hw1⟩
    have s2 := s1.stay hw1
    clear b0 b1
    obtain ⟨b0, b1⟩ := (s2.blk 4 rfl).two
    obtain ⟨c0, c1, c2⟩ := (s2.blk 0 rfl).three
    have cv := s2.arr_cell 2 rfl hi
    have fv := s2.arr_frozen 2 rfl i
    have s3' := s2.arr_set 2 rfl hi (.bool (none : Option Int).isSome)
    rw [upd_used] at s3'
    have s3 : St w S _ [_, _, _, _, _] := s3'.drew
    have S3 := Lib.hid s3
    have HV := Lib.hid (drop_val (i := i) hV)
    simp only [Option.isSome_none] at S3
    rw [hv] at cv
    clear LV s1 s2 hV s3' hv hw1 s3
    go_wp2_with fail
    go_region
    generalize (w1.setCell ⟨ub, i, none⟩ (.bool false)).drew = w2 at *
    have s3 := S3.out
    clear b0 b1 c0 c1 c2 cv fv S3
    obtain ⟨b0, b1⟩ := (s3.blk 4 rfl).two
    obtain ⟨c0, c1, c2⟩ := (s3.blk 0 rfl).three
    have cv := s3.arr_cell 1 rfl hi
    have fv := s3.arr_frozen 1 rfl i
    have s4' := s3.arr_set 1 rfl hi (.int .u64 (gen i + 1))
    rw [upd_int] at s4'
    have s4 : St w S _ [_, _, _, _, _] := s4'.drew
    have S4 := Lib.hid s4
    clear s4 s4' s3
    go_wp2_with fail
    go_region
    generalize (w2.setCell ⟨gb, i, none⟩ (.int .u64 (gen i + 1))).drew = w3 at *
    have s4 := S4.out
    clear b0 b1 c0 c1 c2 cv fv S4
    obtain ⟨b0, b1⟩ := (s4.blk 4 rfl).two
    obtain ⟨c0, c1, c2⟩ := (s4.blk 0 rfl).three
    have cv := s4.arr_cell 3 rfl hi
    rw [hvv] at cv
    have S4 := Lib.hid s4
    clear s4 hvv
    go_wp2_with fail
    go_quiet (fail)
    go_wp2_with fail
    go_ret2
    exact ⟨rfl, ((S4.out.drewN _).drop 4 (by simp)).fin fun S' h => ⟨gb, ub, vb, _, HV.out, h⟩⟩
  · have LV := Lib.hid (Live_no (L := [_]) s1 hn hst)
    go_enter Try.func20, Try.ntmps20
    go_wp2_with fail
    refine LV.out.mono ?_
    rintro e w1 ⟨rfl, hw1⟩
    go_wp2_with fail
    go_ret2
    exact ⟨rfl, ((s1.stay hw1).drop 4 (by simp)).fin fun S' h => ⟨gb, ub, vb, V, hV, h⟩⟩
end
end Go.Proofs.Ytlpmnpmgehjmaaa
