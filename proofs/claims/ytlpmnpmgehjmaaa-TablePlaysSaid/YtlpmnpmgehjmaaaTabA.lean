/- Layer 2: how many values there are. -/
import Derived.Test.YtlpmnpmgehjmaaaTabN
import Derived.Maps.AppendAt
namespace Go.Proofs.Ytlpmnpmgehjmaaa
open Go.RowKit
set_option linter.unusedVariables false
def cnt (st : Nat → Option Int) : Nat → Nat
  | 0 => 0
  | k + 1 => cnt st k + (if (st k).isSome then 1 else 0)
theorem cnt_le (st : Nat → Option Int) (k : Nat) : cnt st k ≤ k := by
  induction k with
  | zero => exact Nat.le_refl _
  | succ k ih => unfold cnt; split <;> omega
theorem row_block {w : World} {base : Nat} {e : TypeId} {size n : Nat} {v : Value} {xs : List Value} (h : w.ownsRow base e size v n xs) {g : Nat} (hg : v.ownBlock = some g) : base ≤ g := by
  obtain ⟨_, h⟩ := h
  rcases h with ⟨rfl, _⟩ | ⟨g', cap, cur, rfl, hb, _⟩
  · simp [Value.ownBlock] at hg
  · obtain rfl : g' = g := by simpa [Value.ownBlock] using hg
    exact hb
theorem row_shape {w : World} {base : Nat} {e : TypeId} {size n : Nat} {v : Value} {xs : List Value} (h : w.ownsRow base e size v n xs) : ∃ A cap, v = .slice A n cap := by
  obtain ⟨_, h⟩ := h
  rcases h with ⟨rfl, rfl⟩ | ⟨g', cap, cur, rfl, hb, _⟩
  · exact ⟨_, _, rfl⟩
  · exact ⟨_, _, rfl⟩
theorem row_nil (w : World) (base : Nat) (e : TypeId) (size : Nat) : w.ownsRow base e size (.slice none 0 0) 0 [] := ⟨by simp, Or.inl ⟨rfl, rfl⟩⟩
theorem Try.infoHandle : (Try.prog.info? 32).map (fun i => (i.zero, i.size, i.bytes)) = some (some (.agg #[.int .i64 0, .int .u64 0]), 2, 16) := by kernel_rfl
theorem All_any (t g n : Nat) (gen : Nat → Int) (st : Nat → Option Int) (w : World) (h : Tb w t g n gen st) (hn : n ≤ 1000) :
    Calls Try.prog 23 #[.pointer (some ⟨t, 0, none⟩)] w fun e w' => ∃ A cap, e = .returned (.slice A (cnt st n) cap) ∧ Below w.heap.size w w' := by
  obtain ⟨i0, hi, hz0, hz1, hz2⟩ := info_parts Try.infoHandle
  have c0 := h.c0
  go_enter Try.func23, Try.ntmps23
  go_wp2
  go_loopw [3, 11] (fun al i wr => ∃ k : Nat, ∃ xs : List Value, k ≤ n ∧ i = .int .i64 k ∧ wr.ownsRow w.heap.size 32 2 al (cnt st k) xs ∧ Below w.heap.size w wr) (fun _ i _ => n - (intOf i).toNat)
  case atStart => exact ⟨0, [], by omega, rfl, row_nil _ _ _ _, Below.refl _ _⟩
  case round =>
    obtain ⟨k, xs, hk, rfl, hown, hB⟩ := hrel
    have hT : Tb wr t g n gen st := h.stay hB
    have c0 := hT.c0
    by_cases hlt : k < n
    · have c1 := hT.gen_at hlt
      have c2 := hT.what_at hlt
      have hcnt := cnt_le st k
      cases hv : st k with
      | none =>
        rw [hv] at c2
        have HC := Lib.hid (show cnt st (k + 1) = cnt st k by simp [cnt, hv])
        go_wp2_with fail
        refine (used_none g (k * 2) _ c2).mono ?_
        rintro e w1 ⟨rfl, rfl⟩
        go_wp2
        go_roundw
        case rel => exact ⟨k + 1, xs, by omega, by go_num, by rw [HC.out]; exact hown, hB⟩
        case measure => simp [intOf]; omega
      | some v =>
        rw [hv] at c2
        have HC := Lib.hid (show cnt st (k + 1) = cnt st k + 1 by simp [cnt, hv])
        generalize gen k = gk at *
        go_wp2_with fail
        refine (used_some g (k * 2) v _ c2).mono ?_
        rintro e w1 ⟨rfl, rfl⟩
        go_wp2_with (at_builtin; refine wpList_append_own _ rfl _ _ 40 rfl w.heap.size 32 i0 (.agg #[.int .i64 0, .int .u64 0]) 2 16 Try.underlying40 hi hz0 hz1 hz2 rfl (by decide) _ _ _ rfl (hown.alloc _) ⟨wr.heap.size, 0, none⟩ 1 1 [.int .i64 k, .int .u64 gk] rfl rfl (fun j u hj => by match j, hj with | 0, hj => simpa [Addr.add] using hj | 1, hj => simpa [Addr.add] using hj | j + 2, hj => simp at hj) (by simp [Value.oneCell']) (by unfold maxLen; omega) (by omega) (by have := hB.size; simp; omega) ?_; intro v2 w2 hown2 hgrow2 _)
        have hbl : Below w.heap.size (wr.alloc (.cells #[.int .i64 k, .int .u64 gk] 32)) w2 := ⟨hgrow2.os, hgrow2.tape, hgrow2.output, hgrow2.size, fun j hj => hgrow2.block j (by have := hB.size; simp; omega) (fun he => absurd (row_block hown he.symm) (by omega))⟩
        exact ⟨⟨k + 1, _, by omega, by go_num, by rw [HC.out]; exact hown2, (hB.alloc hB.size _).trans hbl⟩, by simp [intOf]; omega⟩
    · obtain rfl : k = n := by omega
      obtain ⟨A, cap, rfl⟩ := row_shape hown
      go_wp2
      go_ret
      exact ⟨A, cap, rfl, hB⟩
theorem Count_any (t g n : Nat) (gen : Nat → Int) (st : Nat → Option Int) (w : World) (h : Tb w t g n gen st) (hn : n ≤ 1000) :
    Calls Try.prog 24 #[.pointer (some ⟨t, 0, none⟩)] w fun e w' => e = .returned (.int .i64 (cnt st n)) ∧ Below w.heap.size w w' := by
  go_enter Try.func24, Try.ntmps24
  go_wp2_with fail
  refine (All_any t g n gen st _ h hn).mono ?_
  rintro e w1 ⟨A, cap, rfl, hw1⟩
  go_wp2_with fail
  go_ret
  exact ⟨rfl, hw1⟩
theorem tab_only {B g : Nat} {w0 w w' : World} (h : Below B w0 w) (ho : Only g w w') (hb : B ≤ g) (hs : B ≤ w0.heap.size) : Below B w0 w' :=
  h.trans (ho.below hb (Nat.le_trans hs h.size))
theorem awake_any (w : World) : Calls Try.prog 10 #[] w fun e w' => e = .returned (.bool true) ∧ Below w.heap.size w w' := by
  go_enter Try.func10, Try.ntmps10
  go_wp2_with fail
  refine (New_ok 2 _ (by omega) (by omega)).mono ?_
  rintro e w1 ⟨t, g, ht, hg, rfl, h1, hw1⟩
  go_wp2_with fail
  refine (Put_at t g 2 _ _ 7 0 _ h1 (by omega) (by omega) (fun j hj => absurd hj (by omega)) rfl).mono ?_
  rintro e w2 ⟨rfl, h2, ho2⟩
  have hw2 := tab_only hw1 ho2 hg (Nat.le_refl _)
  have ha := Blk.new w2 32 #[.int .i64 0, .int .u64 1]
  have hga : w2.heap.size ≠ g := by obtain ⟨arr, hb, _⟩ := h2.row; have := hb.lt; omega
  have h2' := h2.alloc (.cells #[.int .i64 0, .int .u64 1] 32)
  obtain ⟨a0, a1⟩ := ha.two
  go_wp2_with fail
  refine (Drop_ok t g 2 _ _ 0 7 _ h2' (by omega) (by omega) rfl (by omega)).mono ?_
  rintro e w3 ⟨rfl, h3, ho3⟩
  have hw3 := tab_only (hw2.alloc hw2.size (.cells #[.int .i64 0, .int .u64 1] 32)) ho3 hg (Nat.le_refl _)
  have ha3 := ho3.blk ha hga
  obtain ⟨a03, a13⟩ := ha3.two
  go_wp2_with fail
  refine (Put_at t g 2 _ _ 8 0 _ h3 (by omega) (by omega) (fun j hj => absurd hj (by omega)) rfl).mono ?_
  rintro e w4 ⟨rfl, h4, ho4⟩
  have hw4 := tab_only hw3 ho4 hg (Nat.le_refl _)
  have ha4 := ho4.blk ha3 hga
  have hb := Blk.new w4 32 #[.int .i64 0, .int .u64 2]
  have h4' := h4.alloc (.cells #[.int .i64 0, .int .u64 2] 32)
  have ha5 := ha4.alloc (.cells #[.int .i64 0, .int .u64 2] 32)
  obtain ⟨a05, a15⟩ := ha5.two
  obtain ⟨b0, b1⟩ := hb.two
  go_wp2_with fail
  refine (Get_stale t g 2 _ _ 0 1 _ h4' (by omega) (Or.inr (Or.inr (Or.inr (by decide))))).mono ?_
  rintro e w5 ⟨rfl, hw5⟩
  have h5 := h4'.stay hw5
  obtain ⟨a06, a16⟩ := (ha5.stay hw5).two
  obtain ⟨b06, b16⟩ := (hb.stay hw5).two
  have ha6 := ha5.stay hw5
  have hb6 := hb.stay hw5
  have hw6 := (hw4.alloc hw4.size (.cells #[.int .i64 0, .int .u64 2] 32)).trans (hw5.mono (hw4.alloc hw4.size (.cells #[.int .i64 0, .int .u64 2] 32)).size)
  go_wp2_with fail
  refine (Get_ok t g 2 _ _ 0 8 _ h5 (by omega) (by omega) rfl).mono ?_
  rintro e w6 ⟨rfl, hw7⟩
  have h6 := h5.stay hw7
  obtain ⟨a07, a17⟩ := (ha6.stay hw7).two
  obtain ⟨b07, b17⟩ := (hb6.stay hw7).two
  have ha7 := ha6.stay hw7
  have hb7 := hb6.stay hw7
  have hw8 := hw6.trans (hw7.mono hw6.size)
  have HC := Count_any t g 2 _ _ w6 h6 (by omega)
  generalize hc : cnt _ 2 = m at HC
  obtain rfl : 1 = m := by rw [← hc]; rfl
  clear hc
  go_wp2_with fail
  refine HC.mono ?_
  rintro e w7 ⟨rfl, hw9⟩
  go_wp2_with fail
  go_ret
  exact ⟨rfl, hw8.trans (hw9.mono hw8.size)⟩
end Go.Proofs.Ytlpmnpmgehjmaaa
