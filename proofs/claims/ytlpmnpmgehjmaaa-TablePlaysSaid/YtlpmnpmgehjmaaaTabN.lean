/- Layer 2: a value is dropped; a table is made. -/
import Derived.Test.YtlpmnpmgehjmaaaTabC
import Derived.OwnWalk
import Derived.ArgAppend
namespace Go.Proofs.Ytlpmnpmgehjmaaa
open Go.RowKit
set_option linter.unusedVariables false
theorem Tb.gen_set {w : World} {t g n : Nat} {gen : Nat → Int} {st : Nat → Option Int} (h : Tb w t g n gen st) {i : Nat} (hi : i < n) (x : Int) : Tb (w.setCell ⟨g, i * 2, none⟩ (.int .u64 x)) t g n (fun j => if j = i then x else gen j) st := by
  obtain ⟨arr, hg, hs, ha⟩ := h.row
  refine ⟨h.ne, h.blk.far (p := ⟨g, i * 2, none⟩) h.ne _, _, hg.set_ (i * 2) _, by simpa using hs, fun j hj => ⟨?_, ?_⟩⟩
  · by_cases hji : j = i
    · subst hji; rw [Array.getElem?_setIfInBounds_self_of_lt (by omega), if_pos rfl]
    · rw [Array.getElem?_setIfInBounds_ne (by omega), if_neg hji]; exact (ha j hj).1
  · rw [Array.getElem?_setIfInBounds_ne (by omega)]; exact (ha j hj).2
theorem Drop_ok (t g n : Nat) (gen : Nat → Int) (st : Nat → Option Int) (i : Nat) (v : Int) (w : World) (h : Tb w t g n gen st) (hi : i < n) (hn : n ≤ 1000) (hs : st i = some v) (hg : 0 ≤ gen i ∧ gen i < 18446744073709551615) :
    Calls Try.prog 19 #[.pointer (some ⟨t, 0, none⟩), .agg #[.int .i64 i, .int .u64 (gen i)]] w fun e w' => e = .returned (.tuple #[.int .i64 v, .int .i64 0]) ∧ Tb w' t g n (fun j => if j = i then gen i + 1 else gen j) (fun j => if j = i then none else st j) ∧ Only g w w' := by
  have h1 := h.alloc (.cells #[.int .i64 i, .int .u64 (gen i)] 32)
  have FD := Lib.hid (find_ok t g n gen st i v _ h1 hi hn hs)
  have hw : IntKind.u64.wrap (gen i + 1) = gen i + 1 := IntWalk.u64_in _ ⟨by omega, by omega⟩
  go_enter Try.func19, Try.ntmps19
  go_wp2_with fail
  refine FD.out.mono ?_
  rintro e w1 ⟨rfl, hw1⟩
  have h2 := h1.stay hw1
  have c1 := h2.gen_at hi
  have c2 := h2.what_at hi
  rw [hs] at c2
  have f1 := h2.frozen (i * 2)
  have f2 := h2.frozen (i * 2 + 1)
  go_wp2_with fail
  refine (value_some g (i * 2) v _ c2).mono ?_
  rintro e w2 ⟨rfl, rfl⟩
  unfold anyOf at c2
  go_wp2
  go_ret2
  exact ⟨rfl, (h2.gen_set hi (gen i + 1)).put hi none, ((Only.of_below (below_box hw1) g).set_ _ _).set_ _ _⟩
theorem Try.infoSlot : (Try.prog.info? 61).map (fun i => (i.zero, i.size, i.bytes)) = some (some (.agg #[.int .u64 0, .nilIface]), 2, 24) := by kernel_rfl
theorem made_at {w w1 : World} {n : Nat} (h0 : 1 ≤ n) (h : w1.ownsRow w.heap.size 61 2 (.slice (some ⟨w.heap.size, 0, none⟩) n n) n (madeCells (Value.agg #[.int .u64 0, .nilIface]).cells (n * 2)).toList) :
    ∃ arr, Blk w1 w.heap.size 61 arr ∧ arr.size = n * 2 ∧ ∀ i, i < n → arr[i * 2]? = some (.int .u64 0) ∧ arr[i * 2 + 1]? = some (anyOf none) := by
  obtain ⟨hl, h⟩ := h
  rcases h with ⟨hv, _⟩ | ⟨g, cap, cur, hv, hb, hh, hn, hm, hs, ht⟩
  · cases hv
  · injection hv with hA _ hc
    injection hA with hA
    injection hA with hA
    subst hA; subst hc
    have key : ∀ j, j < n * 2 → cur[j]? = some (((Value.agg #[.int .u64 0, .nilIface]).cells)[j % ((Value.agg #[.int .u64 0, .nilIface]).cells).size]!) := by
      intro j hj
      have e : cur.toList[j]? = (madeCells (Value.agg #[.int .u64 0, .nilIface]).cells (n * 2)).toList[j]? := by rw [← ht, List.getElem?_take_of_lt hj]
      simp [madeCells, hj] at e
      simpa using e
    refine ⟨cur, hh, by simpa using hs, fun i hi => ⟨?_, ?_⟩⟩
    · rw [key _ (by omega)]; simp [Value.cells]
    · rw [key _ (by omega)]; simp [Value.cells, anyOf, Nat.add_mod]
theorem New_ok (n : Nat) (w : World) (h0 : 1 ≤ n) (hn : n ≤ 1000) :
    Calls Try.prog 11 #[.int .i64 n] w fun e w' => ∃ t g, w.heap.size ≤ t ∧ w.heap.size ≤ g ∧ e = .returned (.tuple #[.pointer (some ⟨t, 0, none⟩), .int .i64 0]) ∧ Tb w' t g n (fun _ => 1) (fun _ => none) ∧ Below w.heap.size w w' := by
  have d1 : decide ((n : Int) < 1) = false := decide_eq_false (by omega)
  have d2 : decide (1000 < (n : Int)) = false := decide_eq_false (by omega)
  obtain ⟨i0, hi, hz0, hz1, hz2⟩ := info_parts Try.infoSlot
  go_enter Try.func11, Try.ntmps11
  go_wp2_with (refine wpList_make_full _ rfl _ _ 57 rfl w.heap.size 61 i0 (.agg #[.int .u64 0, .nilIface]) 2 Try.underlying57 hi hz0 hz1 .i64 .i64 n n n rfl rfl rfl rfl (by rw [hz2]; omega) (by unfold maxLen; omega) (Nat.le_refl _) ?_; intro w1 hown hgrow)
  obtain ⟨arr, hA, hz, ha⟩ := made_at h0 hown
  have hlt := hA.lt
  have T0 : Tb (w1.alloc (.cells #[.slice (some ⟨w.heap.size, 0, none⟩) n n] 59)) w1.heap.size w.heap.size n (fun _ => 0) (fun _ => none) := ⟨by omega, Blk.new _ _ _, arr, hA.alloc _, hz, ha⟩
  have B0 : Below w.heap.size w (w1.alloc (.cells #[.slice (some ⟨w.heap.size, 0, none⟩) n n] 59)) := by
    have hb1 : Below w.heap.size w w1 := ⟨hgrow.os, hgrow.tape, hgrow.output, hgrow.size, fun k hk => hgrow.block k hk (by simp)⟩
    exact hb1.alloc hb1.size _
  clear hown ha hz
  go_loopw [17] (fun i wr => ∃ k : Nat, ∃ gen : Nat → Int, k ≤ n ∧ i = .int .i64 k ∧ (∀ j, j < k → gen j = 1) ∧ Tb wr w1.heap.size w.heap.size n gen (fun _ => none) ∧ Below w.heap.size w wr) (fun i _ => n - (intOf i).toNat)
  case atStart => exact ⟨0, _, by omega, rfl, fun j hj => absurd hj (by omega), T0, B0⟩
  case round =>
    obtain ⟨k, gen, hk, rfl, hgen, hT, hB⟩ := hrel
    by_cases hlt2 : k < n
    · have c0 := hT.c0
      have c1 := hT.gen_at hlt2
      have f1 := hT.frozen (k * 2)
      have HT := Lib.hid (hT.gen_set hlt2 1)
      have HB := Lib.hid (hB.setCell (p := ⟨w.heap.size, k * 2, none⟩) (Nat.le_refl _) (.int .u64 1))
      have HG := Lib.hid (show ∀ j, j < k + 1 → (if j = k then 1 else gen j) = 1 from fun j hj => by split; rfl; exact hgen j (by omega))
      clear hgen
      go_wp2
      go_roundw
      case rel => exact ⟨k + 1, _, by omega, by go_num, HG.out, HT.out, HB.out⟩
      case measure => simp [intOf]; omega
    · go_wp2
      go_ret2
      obtain ⟨arr2, h1, h2, h3⟩ := hT.row
      exact ⟨_, _, by omega, Nat.le_refl _, rfl, ⟨hT.ne, hT.blk, arr2, h1, h2, fun i hi => ⟨by rw [(h3 i hi).1, hgen i (by omega)], (h3 i hi).2⟩⟩, hB⟩
theorem New_small (s : Int) (w : World) (h : s < 1) :
    Calls Try.prog 11 #[.int .i64 s] w fun e w' => e = .returned (.tuple #[.pointer none, .int .i64 1]) ∧ w = w' := by
  have d1 : decide (s < 1) = true := decide_eq_true h
  go_enter Try.func11, Try.ntmps11
  go_wp2
  go_ret2
  exact ⟨rfl, rfl⟩
theorem New_big (s : Int) (w : World) (h : 1000 < s) :
    Calls Try.prog 11 #[.int .i64 s] w fun e w' => e = .returned (.tuple #[.pointer none, .int .i64 1]) ∧ w = w' := by
  have d1 : decide (s < 1) = false := decide_eq_false (by omega)
  have d2 : decide (1000 < s) = true := decide_eq_true h
  go_enter Try.func11, Try.ntmps11
  go_wp2
  go_ret2
  exact ⟨rfl, rfl⟩
theorem New_arg (s : Int) (w : World) (h : s < 1 ∨ 1000 < s) :
    Calls Try.prog 11 #[.int .i64 s] w fun e w' => e = .returned (.tuple #[.pointer none, .int .i64 1]) ∧ w = w' :=
  h.elim (New_small s w) (New_big s w)
end Go.Proofs.Ytlpmnpmgehjmaaa
