/- Layer 2: all handles, in their order. -/
import Derived.Test.YtlpmnpmgehjmaaaTabO
namespace Go.Proofs.Ytlpmnpmgehjmaaa
open Go.RowKit
set_option linter.unusedVariables false
/-- The used slots, rising. -/
def us (st : Nat → Option Int) : Nat → List Nat
  | 0 => []
  | k + 1 => us st k ++ (if (st k).isSome then [k] else [])
/-- Their handles, as cells. -/
def hs (gen : Nat → Int) (st : Nat → Option Int) : Nat → List Value
  | 0 => []
  | k + 1 => hs gen st k ++ (if (st k).isSome then [.int .i64 k, .int .u64 (gen k)] else [])
theorem us_len (st : Nat → Option Int) (n : Nat) : (us st n).length = cnt st n := by
  induction n with
  | zero => rfl
  | succ k ih => unfold us cnt; rw [List.length_append, ih]; split <;> rfl
theorem us_mem {st : Nat → Option Int} {n i : Nat} : i ∈ us st n ↔ i < n ∧ (st i).isSome = true := by
  induction n with
  | zero => simp [us]
  | succ k ih =>
    unfold us
    rw [List.mem_append, ih]
    constructor
    · rintro (⟨h1, h2⟩ | h)
      · exact ⟨by omega, h2⟩
      · split at h
        · rename_i h2
          simp at h; subst h; exact ⟨by omega, h2⟩
        · simp at h
    · rintro ⟨h1, h2⟩
      by_cases e : i = k
      · subst e; right; rw [if_pos h2]; simp
      · left; exact ⟨by omega, h2⟩
theorem us_sorted (st : Nat → Option Int) (n : Nat) : (us st n).Pairwise (· < ·) := by
  induction n with
  | zero => simp [us]
  | succ k ih =>
    unfold us
    rw [List.pairwise_append]
    refine ⟨ih, by split <;> simp, fun a ha b hb => ?_⟩
    have := (us_mem.1 ha).1
    split at hb
    · simp at hb; omega
    · simp at hb
theorem hs_at (gen : Nat → Int) (st : Nat → Option Int) (n : Nat) : ∀ j i, (us st n)[j]? = some i → (hs gen st n)[j * 2]? = some (.int .i64 i) ∧ (hs gen st n)[j * 2 + 1]? = some (.int .u64 (gen i)) := by
  have hlen : ∀ n, (hs gen st n).length = (us st n).length * 2 := fun n => by
    induction n with
    | zero => rfl
    | succ k ih => unfold hs us; rw [List.length_append, List.length_append, ih]; split <;> simp <;> omega
  induction n with
  | zero => intro j i h; simp [us] at h
  | succ k ih =>
    intro j i h
    unfold us at h
    unfold hs
    rcases Nat.lt_or_ge j (us st k).length with hj | hj
    · rw [List.getElem?_append_left hj] at h
      obtain ⟨h1, h2⟩ := ih j i h
      rw [List.getElem?_append_left (by rw [hlen]; omega), List.getElem?_append_left (by rw [hlen]; omega)]
      exact ⟨h1, h2⟩
    · rw [List.getElem?_append_right hj] at h
      rw [List.getElem?_append_right (by rw [hlen]; omega), List.getElem?_append_right (by rw [hlen]; omega)]
      split at h
      · obtain ⟨d, hd⟩ : ∃ d, j - (us st k).length = d := ⟨_, rfl⟩
        rw [hd] at h
        cases d with
        | zero =>
          simp at h
          subst h
          have e : j * 2 - (hs gen st k).length = 0 := by rw [hlen]; omega
          have e2 : j * 2 + 1 - (hs gen st k).length = 1 := by rw [hlen]; omega
          rw [e, e2]
          simp_all
        | succ d => simp at h
      · simp at h
theorem All_l {w0 w : World} {S0 : Nat → Prop} {L : List Res} {t n : Nat} {gen : Nat → Int} {st : Nat → Option Int} (H : St w0 S0 w L) (i : Nat) (hi : L[i]? = some (TabR t n gen st)) (hn : n ≤ 1000) :
    Calls Try.prog 23 #[.pointer (some ⟨t, 0, none⟩)] w fun e w' => ∃ A cap, e = .returned (.slice A (cnt st n) cap) ∧ St w0 S0 w' (L ++ [RowR 32 2 (.slice A (cnt st n) cap) (cnt st n) (hs gen st n)]) := by
  obtain ⟨S, g, h, _⟩ := H.get i hi
  obtain ⟨i0, hi, hz0, hz1, hz2⟩ := info_parts Try.infoHandle
  have HH := Lib.hid H
  clear H
  have c0 := h.c0
  go_enter Try.func23, Try.ntmps23
  go_wp2
  go_loopw [3, 11] (fun al i wr => ∃ k : Nat, k ≤ n ∧ i = .int .i64 k ∧ wr.ownsRow w.heap.size 32 2 al (cnt st k) (hs gen st k) ∧ Below w.heap.size w wr) (fun _ i _ => n - (intOf i).toNat)
  case atStart => exact ⟨0, by omega, rfl, row_nil _ _ _ _, Below.refl _ _⟩
  case round =>
    obtain ⟨k, hk, rfl, hown, hB⟩ := hrel
    have hT : Tb wr t g n gen st := h.stay hB
    have c0 := hT.c0
    by_cases hlt : k < n
    · have c1 := hT.gen_at hlt
      have c2 := hT.what_at hlt
      have hcnt := cnt_le st k
      cases hv : st k with
      | none =>
        rw [hv] at c2
        have HC := Lib.hid (show cnt st (k + 1) = cnt st k by simp [cnt, hv])
        have HX := Lib.hid (show hs gen st (k + 1) = hs gen st k by simp [hs, hv])
        go_wp2_with fail
        refine (used_none g (k * 2) _ c2).mono ?_
        rintro e w1 ⟨rfl, rfl⟩
        go_wp2
        go_roundw
        case rel => exact ⟨k + 1, by omega, by go_num, by rw [HC.out, HX.out]; exact hown, hB⟩
        case measure => simp [intOf]; omega
      | some v =>
        rw [hv] at c2
        have HC := Lib.hid (show cnt st (k + 1) = cnt st k + 1 by simp [cnt, hv])
        have HX := Lib.hid (show hs gen st (k + 1) = hs gen st k ++ [.int .i64 k, .int .u64 (gen k)] by simp [hs, hv])
        obtain ⟨gk, hgk⟩ : ∃ gk, gen k = gk := ⟨_, rfl⟩
        rw [hgk] at c1 HX
        clear hgk
        go_wp2_with fail
        refine (used_some g (k * 2) v _ c2).mono ?_
        rintro e w1 ⟨rfl, rfl⟩
        go_wp2_with (at_builtin; refine wpList_append_own _ rfl _ _ 40 rfl w.heap.size 32 i0 (.agg #[.int .i64 0, .int .u64 0]) 2 16 Try.underlying40 hi hz0 hz1 hz2 rfl (by decide) _ _ _ rfl (hown.alloc _) ⟨wr.heap.size, 0, none⟩ 1 1 [.int .i64 k, .int .u64 gk] rfl rfl (fun j u hj => by match j, hj with | 0, hj => simpa [Addr.add] using hj | 1, hj => simpa [Addr.add] using hj | j + 2, hj => simp at hj) (by simp [Value.oneCell']) (by unfold maxLen; omega) (by omega) (by have := hB.size; simp; omega) ?_; intro v2 w2 hown2 hgrow2 _)
        have hbl : Below w.heap.size (wr.alloc (.cells #[.int .i64 k, .int .u64 gk] 32)) w2 := ⟨hgrow2.os, hgrow2.tape, hgrow2.output, hgrow2.size, fun j hj => hgrow2.block j (by have := hB.size; simp; omega) (fun he => absurd (row_block hown he.symm) (by omega))⟩
        exact ⟨⟨k + 1, by omega, by go_num, by rw [HC.out, HX.out]; exact hown2, (hB.alloc hB.size _).trans hbl⟩, by simp [intOf]; omega⟩
    · obtain rfl : k = n := by omega
      obtain ⟨A, cap, rfl⟩ := row_shape hown
      go_wp2
      go_ret
      exact ⟨A, cap, rfl, HH.out.rowed hB hown⟩
end Go.Proofs.Ytlpmnpmgehjmaaa
