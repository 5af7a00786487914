/- Layer 19: late requests, sorted by the library. -/
import Derived.Test.YthdhfjcgboglfaaLifeJ
import Derived.Lib.RowBridge
namespace Go.Proofs.Ythdhfjcgboglfaa
open Go.RowKit
open Go.Sort hiding Below
set_option linter.unusedVariables false
set_option maxRecDepth 100000
set_option maxHeartbeats 2000000
def encN (x : Nat) : Value := .int .i64 ((x % 65536 : Nat) : Int)
def nv (l : List Nat) : List Value := l.map encN
theorem nv_len (l : List Nat) : (nv l).length = l.length := by simp [nv]
theorem nv_get {l : List Nat} {i : Nat} {x : Nat} (h : l[i]? = some x) : (nv l)[i]? = some (encN x) := by simp [nv, h]
theorem nv_app (l m : List Nat) : nv (l ++ m) = nv l ++ nv m := by simp [nv]
theorem nv_one (l : List Nat) : ∀ u ∈ nv l, u.oneCell' = true := by
  intro u hu
  simp [nv] at hu
  obtain ⟨x, _, rfl⟩ := hu
  rfl
def dN (op : Nat → Option (Int × Int)) (x : Nat) : Int := deadO op ((x % 65536 : Nat) : Int)
def cfN (op : Nat → Option (Int × Int)) (x y : Nat) : Int := or2 (cmpI (dN op x) (dN op y)) (cmpI ((x % 65536 : Nat) : Int) ((y % 65536 : Nat) : Int))
/-- By times, then numbers. -/
def ltN (op : Nat → Option (Int × Int)) (x y : Nat) : Prop := dN op x < dN op y ∨ (dN op x = dN op y ∧ x % 65536 < y % 65536)
theorem cmpI_ways (a b : Int) : (a < b ∧ cmpI a b = -1) ∨ (a = b ∧ cmpI a b = 0) ∨ (b < a ∧ cmpI a b = 1) := by
  unfold cmpI
  by_cases h1 : a < b
  · rw [if_pos h1]; exact Or.inl ⟨h1, rfl⟩
  · rw [if_neg h1]
    by_cases h2 : b < a
    · rw [if_pos h2]; exact Or.inr (Or.inr ⟨h2, rfl⟩)
    · rw [if_neg h2]; exact Or.inr (Or.inl ⟨by omega, rfl⟩)
variable {op : Nat → Option (Int × Int)}
theorem ltN_of (x y : Nat) : ltOf (cfN op) x y = true ↔ ltN op x y := by
  unfold ltOf
  rw [decide_eq_true_iff]
  unfold cfN or2 ltN
  rcases cmpI_ways (dN op x) (dN op y) with ⟨h1, e1⟩ | ⟨h1, e1⟩ | ⟨h1, e1⟩ <;> rcases cmpI_ways ((x % 65536 : Nat) : Int) ((y % 65536 : Nat) : Int) with ⟨h2, e2⟩ | ⟨h2, e2⟩ | ⟨h2, e2⟩ <;>
    (rw [e1, e2]; simp; omega)
theorem ltN_off (x y : Nat) : ltOf (cfN op) x y = false ↔ ¬ ltN op x y := by
  rw [← ltN_of]; simp
theorem swoN : SWO (ltOf (cfN op)) where
  irrefl x := by rw [ltN_off]; unfold ltN; omega
  trans x y z h1 h2 := by rw [ltN_of] at *; unfold ltN at *; omega
  ntrans x y z h1 h2 := by rw [ltN_off] at *; unfold ltN at *; omega
section
variable {w0 w w' : World} {S0 S : Nat → Prop} {L : List Res}
theorem holdsN {g off n c : Nat} {l : List Nat} (h : Lis w 3 1 (.slice (some ⟨g, off, none⟩) n c) n (nv l)) (hn0 : 0 < n) : Holds encN w g off l.toArray := fun j hj => by
  have hj' : j < l.length := by simpa using hj
  have hc := (h.reads.2.resolve_left (by omega))
  obtain ⟨g', off', hA, hc⟩ := hc
  injection hA with hA
  injection hA with e1 e2
  subst e1 e2
  refine ⟨?_, h.frozen _⟩
  have := hc j _ (nv_get (List.getElem?_eq_getElem hj'))
  rw [this]; simp [hj']
theorem sortw_st {g off n c i : Nat} {l : List Nat} (H : St w0 S0 w L) (hi : L[i]? = some (LisR 3 1 (.slice (some ⟨g, off, none⟩) n c) n (nv l))) (hn0 : 0 < n) (m : Nat) (os : Array Obj) (dk : Array Nat) (hd : dk.size = n) :
    St w0 S0 (sortWorld encN w g off m dk os) (L.set i (LisR 3 1 (.slice (some ⟨g, off, none⟩) n c) n (nv dk.toList))) := by
  have h := H.lis i hi
  have hol : (nv l).length = n * 1 := h.1
  have hl : l.length = n := by rw [nv_len] at hol; omega
  have hH := holdsN h hn0
  unfold sortWorld
  refine St.grown ?_ os
  have hv : (nv dk.toList).length = n := by rw [nv_len]; simpa using hd
  have e := Lib.putRow_eq_setCells encN w g off l.toArray dk.toList m hH (by simp [hl, hd])
  rw [show dk.toList.toArray = dk by simp] at e
  rw [e]
  have hk : Lis (w.drewN m) 3 1 (.slice (some ⟨g, off, none⟩) n c) n (nv l) := h.keep fun _ _ => rfl
  obtain ⟨h1, h2⟩ := lis_within_m hk 0 (nv dk.toList) (by omega) hn0
  rw [Nat.add_zero, List.take_zero, List.nil_append, List.drop_of_length_le (by omega), List.append_nil] at h1
  rw [Nat.add_zero] at h2
  exact (H.drewN m).lis_only i hi h1 h2
theorem sort_n {g off n c i j k e q b mb N : Nat} {l : List Nat} {V : Nat → Value} (H : St w0 S0 w L) (hi : L[i]? = some (LisR 3 1 (.slice (some ⟨g, off, none⟩) n c) n (nv l))) (hn1 : n ≤ 100000) (hn0 : 0 < n)
    (hj : L[j]? = some (BlkR q 25 #[.pointer (some ⟨b, 0, none⟩)])) (hk : L[k]? = some (ArrR b 65 68 V)) (hV : V 2 = .map (some mb)) (he : L[e]? = some (MapZR Try.prog 3 mb N (mapO op))) (hij : i ≠ j) (hik : i ≠ k) (hie : i ≠ e) :
    Calls Try.prog 39 #[.slice (some ⟨g, off, none⟩) n c, .func (.func 40) #[] #[.pointer (some ⟨q, 0, none⟩)]] w fun e w' => e = .returned (.tuple #[]) ∧ ∃ l' : List Nat, l'.Perm l ∧ (∀ (a b : Nat) x y, a < b → l'[a]? = some x → l'[b]? = some y → ¬ ltN op y x) ∧
      St w0 S0 w' (L.set i (LisR 3 1 (.slice (some ⟨g, off, none⟩) n c) n (nv l'))) := by
  have h := H.lis i hi
  have hol : (nv l).length = n * 1 := h.1
  have hl : l.length = n := by rw [nv_len] at hol; omega
  have hsz : l.toArray.size = n := by simp [hl]
  have eg : ∀ args w, (callFunc 40 args).run Try.prog w = .ok (.enter 40 args) w := enters_of Try.func40 (by kernel_rfl) rfl
  have hcmp : CmpLays1 Try.prog 40 #[.pointer (some ⟨q, 0, none⟩)] encN (cfN op) g off n w := fun m os dk hd x y => by
    have s1 := sortw_st H hi hn0 m os dk hd
    have q1 := (s1.blk j (by rw [List.getElem?_set_ne hij]; exact hj)).one
    have b1 := s1.arr_cell k (by rw [List.getElem?_set_ne hik]; exact hk) (k := 2) (by omega)
    rw [hV] at b1
    have m1 := s1.mapz e (by rw [List.getElem?_set_ne hie]; exact he)
    exact late1_c q1 b1 m1 (wf_small (by omega) (by omega)) (wf_small (by omega) (by omega))
  have hcon := Any.slices_SortFunc sortV encN (fun _ => rfl) (cfN op) swoN 40 #[.pointer (some ⟨q, 0, none⟩)] g off c l.toArray w eg (by rw [hsz]; exact hcmp) (holdsN h hn0) (h.lt rfl) (by omega)
  rw [hsz] at hcon
  change Calls Try.prog 39 _ _ _ at hcon
  refine hcon.mono ?_
  rintro e w' ⟨rfl, d', m, os, hp, hs, rfl⟩
  have hd : d'.size = n := by rw [hp.1, hsz]
  have hpl : d'.toList.Perm l := by
    have := hp.2.2
    rwa [← hd, Array.extract_size, hd, ← hsz, Array.extract_size] at this
  refine ⟨rfl, d'.toList, hpl, fun a b x y hab hx hy => ?_, sortw_st H hi hn0 m os d' hd⟩
  have hb : b < d'.toList.length := (List.getElem?_eq_some_iff.1 hy).1
  have := hs a b (Nat.zero_le _) hab (by simpa [hd] using hb)
  rw [ltN_off] at this
  have ex : d'[a]! = x := by simp only [Array.getElem?_toList] at hx; rw [getElem!_def, hx]
  have ey : d'[b]! = y := by simp only [Array.getElem?_toList] at hy; rw [getElem!_def, hy]
  rwa [ex, ey] at this
end
end Go.Proofs.Ythdhfjcgboglfaa
