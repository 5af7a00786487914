/- The library's sort at a list of integers of one's own. -/
import Derived.Test.YtdjhpdacglojaaaGreatSortI
import Derived.Test.YtdjhpdacglojaaaGreatDel
import Derived.Shelf.GgSortFunc.RowK
namespace Go.Proofs.YtdjhpdacglojaaaGreat
open Go.RowKit
open Go.Sort hiding Below
set_option linter.unusedVariables false
def iv (l : List Int) : List Value := l.map fun x => .int .i64 x
theorem iv_len (l : List Int) : (iv l).length = l.length := by simp [iv]
theorem iv_get {l : List Int} {i : Nat} {x : Int} (h : l[i]? = some x) : (iv l)[i]? = some (.int .i64 x) := by simp [iv, h]
theorem iv_app (l m : List Int) : iv (l ++ m) = iv l ++ iv m := by simp [iv]
theorem iv_one (l : List Int) : ∀ u ∈ iv l, u.oneCell' = true := by
  intro u hu
  simp [iv] at hu
  obtain ⟨x, _, rfl⟩ := hu
  rfl
theorem putRow_iv (w : World) (g off : Nat) (l : List Int) : putRow (Value.int .i64) w g off l.toArray = putRow id w g off (iv l).toArray := by
  unfold putRow
  congr 1
  funext cur
  unfold putCells
  congr 1
  funext k x
  have e : (iv l).toArray.size = l.toArray.size := by simp [iv]
  rw [e]
  by_cases h : off ≤ k ∧ k < off + l.toArray.size
  · rw [if_pos h, if_pos h]
    have hk : k - off < l.length := by simp at h; omega
    simp [iv, hk]
  · rw [if_neg h, if_neg h]
theorem put_cellsI {w : World} {g off : Nat} {F : Array Value} {l : List Int} (h : Holds id w g off F) (hs : F.size = l.length) : putRow (Value.int .i64) w g off l.toArray = w.setCells g off (iv l) := by
  rw [putRow_iv]
  have h1 := setCells_putRow w g off (iv l) 0 F (by rw [iv_len]; omega)
  rw [putRow_self id w g off F h] at h1
  have h2 : setMany F 0 (iv l) = (iv l).toArray := ext_get! (by simp [hs, iv_len]) fun t ht => by
    have ht' : t < F.size := by simpa using ht
    rw [get_setMany _ _ _ _ ht', if_pos (by rw [iv_len]; omega)]
    simp
  rw [h2] at h1
  exact h1.symm
section
variable {w0 w w' : World} {S0 S : Nat → Prop} {L : List Res}
theorem St.grown (h : St w0 S0 w L) (os : Array Obj) : St w0 S0 (grow w os) L :=
  h.stay ⟨rfl, rfl, rfl, by simp [grow], fun k hk => by simp [grow, Array.getElem?_append_left hk]⟩
theorem sort_i {g off n c i : Nat} {l : List Int} (H : St w0 S0 w L) (hi : L[i]? = some (LisR 3 1 (.slice (some ⟨g, off, none⟩) n c) n (iv l))) (hn1 : n ≤ 100000) (hn0 : 0 < n) :
    Calls Tryz.prog 176 #[.slice (some ⟨g, off, none⟩) n c] w fun e w' => e = .returned (.tuple #[]) ∧ St w0 S0 w' (L.set i (LisR 3 1 (.slice (some ⟨g, off, none⟩) n c) n (iv (l.mergeSort fun x y => decide (x ≤ y))))) := by
  have h := H.lis i hi
  have hol : (iv l).length = n * 1 := h.1
  have hl : l.length = n := by rw [iv_len] at hol; omega
  have hc := (h.reads.2.resolve_left (by omega))
  obtain ⟨g', off', hA, hc⟩ := hc
  injection hA with hA
  injection hA with e1 e2
  subst e1 e2
  have hF : Holds id w g off (iv l).toArray := fun j hj => by
    have hj' : j < (iv l).length := by simpa using hj
    refine ⟨?_, h.frozen _⟩
    have := hc j _ (List.getElem?_eq_getElem hj')
    rw [this]; simp [hj']
  have hH : Holds (Value.int .i64) w g off l.toArray := fun j hj => by
    have hj' : j < l.length := by simpa using hj
    obtain ⟨a, b⟩ := hF j (by simp [iv_len, hj'])
    refine ⟨?_, b⟩
    rw [a]; simp [iv, hj']
  have hcon := Any.slices_Sort_int sortI g off c l w hH (h.lt rfl) (by omega)
  rw [hl] at hcon
  change Calls Tryz.prog 176 _ _ _ at hcon
  refine hcon.mono ?_
  rintro e w' ⟨rfl, m, os, rfl⟩
  refine ⟨rfl, ?_⟩
  have hv : (iv (l.mergeSort fun x y => decide (x ≤ y))).length = n := by rw [iv_len, List.length_mergeSort, hl]
  rw [put_cellsI (F := (iv l).toArray) (w := Go.Sort.ahead w m) hF (by simp [iv_len, List.length_mergeSort])]
  refine St.grown ?_ os
  have hk : Lis (w.drewN m) 3 1 (.slice (some ⟨g, off, none⟩) n c) n (iv l) := h.keep fun _ _ => rfl
  obtain ⟨h1, h2⟩ := lis_within_m hk 0 (iv (l.mergeSort fun x y => decide (x ≤ y))) (by omega) hn0
  rw [Nat.add_zero, List.take_zero, List.nil_append, List.drop_of_length_le (by omega), List.append_nil] at h1
  rw [Nat.add_zero] at h2
  exact (H.drewN m).lis_only i hi h1 h2
end
/-- Sorted, and each once: rising. -/
theorem rising_of {l : List Int} (hn : l.Nodup) : (l.mergeSort fun x y => decide (x ≤ y)).Pairwise (· < ·) := by
  have hp : (l.mergeSort fun x y => decide (x ≤ y)).Perm l := List.mergeSort_perm l _
  have h1 : (l.mergeSort fun x y => decide (x ≤ y)).Pairwise fun a b => decide (a ≤ b) = true :=
    List.pairwise_mergeSort (fun a b c h1 h2 => by simp at h1 h2 ⊢; omega) (fun a b => by simp; omega) l
  have h2 : (l.mergeSort fun x y => decide (x ≤ y)).Nodup := hp.nodup_iff.2 hn
  refine (List.pairwise_and_iff.2 ⟨h1, h2⟩).imp fun ⟨a, b⟩ => ?_
  simp at a
  omega
theorem len_small : ∀ (N : Nat) (l : List Int), l.Nodup → (∀ x ∈ l, 0 ≤ x ∧ x < N) → l.length ≤ N
  | 0, l, _, h => by
    cases l with
    | nil => exact Nat.le_refl _
    | cons x l => have := h x (by simp); omega
  | N + 1, l, hn, h => by
    by_cases hm : (N : Int) ∈ l
    · have := len_small N (l.erase N) (hn.erase _) fun x hx => by
        obtain ⟨a, b⟩ := (hn.mem_erase_iff).1 hx
        have := h x b
        omega
      have h2 := List.length_erase_of_mem hm
      have : 0 < l.length := List.length_pos_of_mem hm
      omega
    · have := len_small N l hn fun x hx => by
        have h1 := h x hx
        have : x ≠ N := fun e => hm (e ▸ hx)
        omega
      omega
end Go.Proofs.YtdjhpdacglojaaaGreat
