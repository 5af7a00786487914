/- Layer 21: the library's Itoa and Join, in our words; a command as a line. -/
import Derived.Test.YtlceanlenekanaaDoorCalP
import Derived.Test.YtlceanlenekanaaDoorShJ
import Derived.Lib.AppendIntMem
namespace Go.Proofs.YtlceanlenekanaaDoor
open Go.RowKit
set_option linter.unusedVariables false
set_option maxRecDepth 100000
set_option maxHeartbeats 4000000
abbrev tabN : String := "internal/strconv.uint64pow10"
abbrev TabB (B : Nat) (w : World) : Prop := Lib.TabBelow Tryd.prog B w tabN .u64 Lib.pow10Tab
theorem TabB.at_ {B : Nat} {w w' : World} (h : TabB B w) (hB : B ≤ w.heap.size) (hb : Below w.heap.size w w') : TabB B w' := Lib.TabBelow.on h (hb.mono hB)
theorem dec_digs : ∀ n : Nat, Lib.decDigits n = digs n := by
  intro n
  induction n using Nat.strongRecOn with
  | ind n ih =>
    rw [Lib.decDigits]
    by_cases h : n < 10
    · rw [dif_pos h, digs_small h]
      unfold dg
      rw [Nat.mod_eq_of_lt h]
    · rw [dif_neg h, digs_big h, ih (n / 10) (by omega)]; rfl
theorem grow_below (w : World) (k : Nat) (os : Array Obj) : Below w.heap.size w (Sort.grow (w.drewN k) os) :=
  ⟨rfl, rfl, rfl, by show w.heap.size ≤ (w.heap ++ os).size; simp, fun j hj => by show (w.heap ++ os)[j]? = _; exact Array.getElem?_append_left hj⟩
theorem itoa_o (x : Int) (h0 : 0 ≤ x) (h1 : x ≤ 9000000000000000000) (w : World) (htab : Lib.TabIs Tryd.prog w tabN .u64 Lib.pow10Tab) : Calls Tryd.prog 31 #[.int .i64 x] w fun e w' => e = .returned (stV (digs x.toNat)) ∧ Below w.heap.size w w' := by
  have h := Any.strconv_Itoa YtlceanlenekanaaDoor.shItoa x (by omega) (by omega) w htab
  change Calls Tryd.prog 31 _ _ _ at h
  refine h.mono fun e w' ⟨he, k, os, hw⟩ => ⟨?_, by subst hw; exact grow_below w k os⟩
  rw [he]
  unfold Lib.itoa
  rw [if_neg (by omega), dec_digs]; rfl
/-- A command told. -/
def textO (nb : List UInt8) (xs : List Int) : List UInt8 := if mayC nb xs = true then textB nb (xs.map Int.toNat) else []
theorem RdI.on {w w' : World} {B : Option Addr} {xs : List Int} (h : RdI w B xs) (hb : Below w.heap.size w w') : RdI w' B xs := fun i u hu => by
  obtain ⟨g, off, e, h1, h2⟩ := h i u hu
  refine ⟨g, off, e, Nat.lt_of_lt_of_le h1 hb.size, ?_⟩
  rw [← h2]
  exact World.cell?_of_block (w := w) (hb.block g h1)
theorem mayC_in {nb : List UInt8} {xs : List Int} (h : mayC nb xs = true) : (∀ x ∈ xs, 0 ≤ x ∧ x ≤ 2147483647) ∧ nm nb = some xs.length := by
  rw [mayC_alt, Bool.and_eq_true] at h
  exact ⟨fun x hx => of_decide_eq_true (List.all_eq_true.1 h.1 x hx), of_decide_eq_true h.2⟩
theorem textB_len (nb : List UInt8) : ∀ ns : List Nat, (∀ x ∈ ns, x ≤ 2147483647) → (textB nb ns).length ≤ nb.length + 11 * ns.length
  | [], _ => by simp [textB]
  | x :: ns, h => by
    have h1 := textB_len nb ns fun y hy => h y (List.mem_cons_of_mem _ hy)
    have h2 := digs_max 9 x (by have := h x List.mem_cons_self; omega)
    unfold textB at h1 ⊢
    rw [List.flatMap_cons, List.length_append, List.length_append, List.length_cons, List.length_cons]
    rw [List.length_append] at h1
    omega
theorem textB_more (nb : List UInt8) (xs : List Int) (i : Nat) (x : Int) (h : xs[i]? = some x) : textB nb ((xs.take (i + 1)).map Int.toNat) = textB nb ((xs.take i).map Int.toNat) ++ 32 :: digs x.toNat := by
  rw [take_snoc h, List.map_append]
  exact textB_snoc nb _ _
end Go.Proofs.YtlceanlenekanaaDoor
