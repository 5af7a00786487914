/- Layer 25, plain: the beginnings of a record's text. -/
import Derived.Test.YtlceanlenekanaaDoorTraT
namespace Go.Proofs.YtlceanlenekanaaDoor
open Go.RowKit
set_option linter.unusedVariables false
set_option maxRecDepth 100000
theorem rdI_nil (w : World) (A : Option Addr) : RdI w A [] := fun i x hx => by cases hx
theorem rdF_nil (w : World) (A : Option Addr) : RdF w A [] := fun i x hx => by cases hx
/-- A record with no more than its first outcomes. -/
def pfT (t : Tk) (i : Nat) : Tk := { t with ft := t.ft.take i }
theorem pf_may {t : Tk} (h : mayT t = true) (i : Nat) : mayT (pfT t i) = true := by
  unfold mayT at h ⊢
  rw [Bool.and_eq_true] at h ⊢
  refine ⟨?_, h.2⟩
  rw [List.all_eq_true] at h ⊢
  exact fun f hf => h.1 f (List.mem_of_mem_take hf)
theorem pf_pre (t : Tk) (i : Nat) : txB t = txB (pfT t i) ++ (t.ft.drop i).flatMap ftB := by
  unfold txB pfT
  dsimp only
  rw [List.append_assoc, List.append_assoc, List.append_assoc, List.append_assoc, ← List.flatMap_append, List.take_append_drop]
theorem pf_one {t : Tk} {i : Nat} {f : Int × Int × Int} (h : t.ft[i]? = some f) : txB (pfT t (i + 1)) = txB (pfT t i) ++ ftB f := by
  have e := pf_pre (pfT t (i + 1)) i
  have hi : i < t.ft.length := (List.getElem?_eq_some_iff.1 h).1
  have e1 : pfT (pfT t (i + 1)) i = pfT t i := by
    unfold pfT
    dsimp only
    rw [List.take_take, Nat.min_eq_left (by omega)]
  have e2 : (pfT t (i + 1)).ft.drop i = [f] := by
    show (t.ft.take (i + 1)).drop i = [f]
    rw [List.take_add_one, h, List.drop_left' (by rw [List.length_take]; omega)]
    rfl
  rw [e1, e2] at e
  rw [e, List.flatMap_cons, List.flatMap_nil, List.append_nil]
theorem pf_end (t : Tk) : pfT t t.ft.length = t := by unfold pfT; rw [List.take_length]
theorem ft_hd (f : Int × Int × Int) : ∃ r, ftB f = 61 :: r := ⟨_, rfl⟩
/-- Nobody's record but who ran. -/
def whT (w : Int) : Tk := ⟨w, [], [], [], []⟩
theorem wh_txt (w : Int) : txB (whT w) = whoB w := by
  unfold txB whT
  dsimp only
  show whoB w ++ ([] ++ ([] ++ ([] ++ []))) = _
  rw [List.append_nil]; simp
theorem wh_may {t : Tk} (h : mayT t = true) : mayT (whT t.who) = true := by
  have := (mayT_parts h).2.1
  unfold mayT whT
  dsimp only
  rw [this]
  rfl
theorem wh_pre (t : Tk) : ∃ r, txB t = txB (whT t.who) ++ r := ⟨_, by rw [wh_txt]; rfl⟩
/-- A text's beginning. -/
theorem pre_cut {s p : ByteArray} {r : List UInt8} (h : s.data.toList = p.data.toList ++ r) : s.extract 0 p.size = p ∧ p.size ≤ s.size := by
  have hp : p.data.toList.length = p.size := lst_len p
  have hs : s.data.toList.length = s.size := lst_len s
  refine ⟨?_, by rw [← hs, ← hp, h, List.length_append]; omega⟩
  have e : (s.extract 0 p.size).data.toList = p.data.toList := by
    rw [ByteArray.data_extract, Array.toList_extract, List.extract_eq_take_drop, h, List.drop_zero, Nat.sub_zero, ← hp, List.take_left]
  exact ByteArray.ext (Array.toList_inj.1 e)
theorem pre_slice {s p : ByteArray} {r : List UInt8} (h : s.data.toList = p.data.toList ++ r) : ∀ W : World, (Instr.slice 9 (.string s) none (some (.int .i64 (p.size : Int))) none).run Tryd.prog W = .ok (.string p) W := fun W => by
  obtain ⟨e1, e2⟩ := pre_cut h
  have := run_slice_string_to_if (P := Tryd.prog) W 9 s .i64 (p.size : Int) Tryd.underlying9
  rw [if_pos ⟨by omega, by omega⟩, show (p.size : Int).toNat = p.size by omega, e1] at this
  exact this
theorem pre_next {s p : ByteArray} {b : UInt8} {r : List UInt8} (h : s.data.toList = p.data.toList ++ b :: r) : ∃ hl : p.size < s.size, s[p.size]'hl = b := by
  have hp : p.data.toList.length = p.size := lst_len p
  have hs : s.data.toList.length = s.size := lst_len s
  have hl : p.size < s.size := by rw [← hs, ← hp, h, List.length_append, List.length_cons]; omega
  refine ⟨hl, ?_⟩
  have e : s.data.toList[p.size]? = some b := by rw [h, ← hp, List.getElem?_append_right (Nat.le_refl _), Nat.sub_self]; rfl
  have : s.data.toList[p.size]? = some (s[p.size]'hl) := by
    rw [List.getElem?_eq_getElem (by rw [hs]; exact hl)]
    congr 1
  rw [this] at e
  injection e
theorem stV_of (l : List UInt8) : ∃ s : ByteArray, stV l = .string s ∧ s.data.toList = l := ⟨⟨l.toArray⟩, rfl, by simp⟩
theorem tab_ofP {W : World} (h : laidMetH Tryd.prog Rows.tracePartsRow.laid W) : TabB W.heap.size W := by
  rw [MakeChecks.laidMetH_plain _ _ _ (by kernel_rfl)] at h
  have h2 := laidMet.tail (laidMet.tail h)
  refine Lib.tabBelow_of_tabIs ?_
  exact Lib.tabIs_of_head (g := 0) (t := 96) (e := 88) (n := 20) (by kernel_rfl) (by kernel_rfl) Tryd.underlying96 Tryd.underlying88 (by kernel_rfl) (by kernel_rfl) h2
theorem tab_ofS {W : World} (h : laidMetH Tryd.prog Rows.traceSpoiledRow.laid W) : TabB W.heap.size W := by
  rw [MakeChecks.laidMetH_plain _ _ _ (by kernel_rfl)] at h
  have h2 := laidMet.tail (laidMet.tail h)
  refine Lib.tabBelow_of_tabIs ?_
  exact Lib.tabIs_of_head (g := 0) (t := 96) (e := 88) (n := 20) (by kernel_rfl) (by kernel_rfl) Tryd.underlying96 Tryd.underlying88 (by kernel_rfl) (by kernel_rfl) h2
end Go.Proofs.YtlceanlenekanaaDoor
