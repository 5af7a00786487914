/- Layer 19: how two late requests are compared. Layer 19: late requests, sorted by the library. Layer 19: who is late, in order. Layer 19: a request comes out while the wheel is ahead of the book: printed by bin/genLifeP.py. Layer 19: a book whose time goes on: the words. Layer 19: the time of a book goes on. Layer 19: a book as one thing: Go. Layer 19: the laws' first look. Layer 19: Go after Go; a book of the first requests. Layer 19: answers to a book of the first requests. Layer 19: how many are open, and how many come out. -/
import Derived.Test.YtdjhpdacglojaaaGreatLifA
import Derived.Test.YtdjhpdacglojaaaGreatSortV
import Derived.Lib.RowBridge
import Derived.Lib.BitFns
import Derived.Lib.Strings
import Derived.Lib.Slices
import Derived.Lib.Small
import Derived.Lib.Walk
namespace Go.Proofs.YtdjhpdacglojaaaGreat
open Go.RowKit
section
set_option linter.unusedVariables false
set_option maxRecDepth 100000
set_option maxHeartbeats 2000000
def cmpI (x y : Int) : Int := if x < y then -1 else if y < x then 1 else 0
theorem cmpI_c (x y : Int) (w : World) : Calls Tryz.prog 165 #[.int .i64 x, .int .i64 y] w fun e w' => e = .returned (.int .i64 (cmpI x y)) ∧ w = w' := by
  have n1 : (x != x) = false := by simp
  have n2 : (y != y) = false := by simp
  by_cases h1 : x < y
  · have H := Lib.hid (show cmpI x y = -1 by unfold cmpI; rw [if_pos h1])
    have d1 : decide (x < y) = true := decide_eq_true h1
    clear h1
    go_enter Tryz.func165, Tryz.ntmps165
    go_wp2
    go_ret
    exact ⟨by rw [H.out]; rfl, rfl⟩
  · have d1 : decide (x < y) = false := decide_eq_false h1
    by_cases h2 : y < x
    · have H := Lib.hid (show cmpI x y = 1 by unfold cmpI; rw [if_neg h1, if_pos h2])
      have d2 : decide (y < x) = true := decide_eq_true h2
      clear h1 h2
      go_enter Tryz.func165, Tryz.ntmps165
      go_wp2
      go_ret
      exact ⟨by rw [H.out]; rfl, rfl⟩
    · have H := Lib.hid (show cmpI x y = 0 by unfold cmpI; rw [if_neg h1, if_neg h2])
      have d2 : decide (y < x) = false := decide_eq_false h2
      clear h1 h2
      go_enter Tryz.func165, Tryz.ntmps165
      go_wp2
      go_ret
      exact ⟨by rw [H.out]; rfl, rfl⟩
theorem cmpU_c (x y : Int) (w : World) : Calls Tryz.prog 164 #[.int .u64 x, .int .u64 y] w fun e w' => e = .returned (.int .i64 (cmpI x y)) ∧ w = w' := by
  have n1 : (x != x) = false := by simp
  have n2 : (y != y) = false := by simp
  by_cases h1 : x < y
  · have H := Lib.hid (show cmpI x y = -1 by unfold cmpI; rw [if_pos h1])
    have d1 : decide (x < y) = true := decide_eq_true h1
    clear h1
    go_enter Tryz.func164, Tryz.ntmps164
    go_wp2
    go_ret
    exact ⟨by rw [H.out]; rfl, rfl⟩
  · have d1 : decide (x < y) = false := decide_eq_false h1
    by_cases h2 : y < x
    · have H := Lib.hid (show cmpI x y = 1 by unfold cmpI; rw [if_neg h1, if_pos h2])
      have d2 : decide (y < x) = true := decide_eq_true h2
      clear h1 h2
      go_enter Tryz.func164, Tryz.ntmps164
      go_wp2
      go_ret
      exact ⟨by rw [H.out]; rfl, rfl⟩
    · have H := Lib.hid (show cmpI x y = 0 by unfold cmpI; rw [if_neg h1, if_neg h2])
      have d2 : decide (y < x) = false := decide_eq_false h2
      clear h1 h2
      go_enter Tryz.func164, Tryz.ntmps164
      go_wp2
      go_ret
      exact ⟨by rw [H.out]; rfl, rfl⟩
/-- The first that isn't 0. -/
def or2 (a b : Int) : Int := if a ≠ 0 then a else b
theorem or2_c (a b : Int) (g : Nat) (w : World) (h0 : w.cell? ⟨g, 0, none⟩ = some (.int .i64 a)) (h1 : w.cell? ⟨g, 1, none⟩ = some (.int .i64 b)) :
    Calls Tryz.prog 163 #[.slice (some ⟨g, 0, none⟩) 2 2] w fun e w' => e = .returned (.int .i64 (or2 a b)) ∧ w = w' := by
  go_enter Tryz.func163, Tryz.ntmps163
  go_wp2_with fail
  go_loopw [5, 8] (fun x i wr => ∃ k : Nat, k ≤ 2 ∧ i = .int .i64 k ∧ ((1 ≤ k → a = 0) ∧ (2 ≤ k → b = 0)) ∧ wr = w) (fun _ i _ => 2 - (intOf i).toNat)
  case atStart => exact ⟨0, by omega, rfl, ⟨fun h => by omega, fun h => by omega⟩, rfl⟩
  case round =>
  obtain ⟨k, hk, rfl, hz, rfl⟩ := hrel
  have HZ := Lib.hid hz
  clear hz
  rcases (show k = 0 ∨ k = 1 ∨ k = 2 by omega) with rfl | rfl | rfl
  · by_cases hv : a = 0
    · have HV := Lib.hid hv
      have z : (a != 0) = false := by simp [hv]
      clear hv
      go_wp2_with fail
      go_roundw
      case rel => first | exact ⟨1, by omega, rfl, ⟨fun _ => HV.out, fun h => by omega⟩, rfl⟩ | exact ⟨1, by omega, rfl, ⟨fun _ => HV.out, fun h => by omega⟩, trivial⟩
      case measure => simp [intOf]
    · have HO := Lib.hid (show or2 a b = a from by unfold or2; rw [if_pos hv])
      have z : (a != 0) = true := by simp [hv]
      clear hv
      go_wp2_with fail
      go_ret
      exact ⟨by rw [HO.out]; rfl, rfl⟩
  · by_cases hv : b = 0
    · have HV := Lib.hid hv
      have z : (b != 0) = false := by simp [hv]
      clear hv
      go_wp2_with fail
      go_roundw
      case rel => first | exact ⟨2, by omega, rfl, ⟨fun _ => HZ.out.1 (by omega), fun _ => HV.out⟩, rfl⟩ | exact ⟨2, by omega, rfl, ⟨fun _ => HZ.out.1 (by omega), fun _ => HV.out⟩, trivial⟩
      case measure => simp [intOf]
    · have HO := Lib.hid (show or2 a b = b from by unfold or2; rw [if_neg (fun h => h (HZ.out.1 (by omega)))])
      have z : (b != 0) = true := by simp [hv]
      clear hv
      go_wp2_with fail
      go_ret
      exact ⟨by rw [HO.out]; rfl, rfl⟩
  · have HO := Lib.hid (show or2 a b = 0 from by unfold or2; rw [if_neg (fun h => h (HZ.out.1 (by omega)))]; exact HZ.out.2 (by omega))
    go_wp2_with fail
    go_ret
    exact ⟨by rw [HO.out]; rfl, rfl⟩
theorem dead_look {W : World} {mb n : Nat} {op : Nat → Option (Int × Int)} (hm : MapZ W Tryz.prog 3 mb n (mapO op)) {x : Int} (hx : wfI x) : ∃ t, (Instr.lookup 215 (.map (some mb)) (.int .i64 x) false).run Tryz.prog W = .ok (.agg #[.int .i64 t, .int .u64 (deadO op x)]) W := by
  have h := hm.mapi.look1 Tryz.underlying3 Tryz.underlying215 (YtdjhpdacglojaaaGreatzOpen W) hx
  unfold deadO
  cases hs : slotO op x with
  | none =>
    have e2 : mapO op x = none := by unfold mapO; rw [hs]; rfl
    rw [e2] at h
    exact ⟨0, h⟩
  | some k =>
    have e2 : mapO op x = some (mapF op k) := by unfold mapO; rw [hs]; rfl
    rw [e2] at h
    exact ⟨_, h⟩
theorem YtdjhpdacglojaaaGreatfldO (t u : Int) (W : World) : (Instr.field 212 (.agg #[.int .i64 t, .int .u64 u]) 1).run Tryz.prog W = .ok (.int .u64 u) W := by kernel_rfl
theorem late1_c {W : World} {q b mb n : Nat} {op : Nat → Option (Int × Int)} (hq : W.cell? ⟨q, 0, none⟩ = some (.pointer (some ⟨b, 0, none⟩))) (hb : W.cell? ⟨b, 2, none⟩ = some (.map (some mb))) (hm : MapZ W Tryz.prog 3 mb n (mapO op)) {x y : Int} (hx : wfI x) (hy : wfI y) :
    Calls Tryz.prog 162 #[.int .i64 x, .int .i64 y, .pointer (some ⟨q, 0, none⟩)] W fun e w' => e = .returned (.int .i64 (or2 (cmpI (deadO op x) (deadO op y)) (cmpI x y))) ∧ ∃ k os', w' = Go.Sort.grow (W.drewN k) os' := by
  have hm1 : MapZ W.drew Tryz.prog 3 mb n (mapO op) := hm.keep rfl
  obtain ⟨t1, l1⟩ := dead_look hm1 hx
  obtain ⟨t2, l2⟩ := dead_look hm1 hy
  have q1 : W.drew.cell? ⟨q, 0, none⟩ = some (.pointer (some ⟨b, 0, none⟩)) := hq
  have b1 : W.drew.cell? ⟨b, 2, none⟩ = some (.map (some mb)) := hb
  have a1 := fun (p r : Value) => (((St.begin W.drew).box 3 #[p, r]).blk 0 rfl).two
  have a1 : ∀ p r : Value, (W.drew.alloc (.cells #[p, r] 3)).cell? ⟨W.heap.size, 0, none⟩ = some p ∧ (W.drew.alloc (.cells #[p, r] 3)).cell? ⟨W.heap.size, 1, none⟩ = some r := a1
  obtain ⟨u, hu⟩ : ∃ u, deadO op x = u := ⟨_, rfl⟩
  obtain ⟨v, hv⟩ : ∃ v, deadO op y = v := ⟨_, rfl⟩
  rw [hu] at l1 ⊢
  rw [hv] at l2 ⊢
  have fo := YtdjhpdacglojaaaGreatfldO
  clear hm hm1 hu hv
  go_enter Tryz.func162, Tryz.ntmps162
  go_wp2_with fail
  go_region_law (first
    | (go_simp; refine (cmpU_c _ _ _).mono ?_; rintro e3 w3 ⟨rfl, rfl⟩)
    | (go_simp; refine (cmpI_c _ _ _).mono ?_; rintro e3 w3 ⟨rfl, rfl⟩)
    | (go_simp; refine (or2_c _ _ W.heap.size _ (a1 _ _).1 (a1 _ _).2).mono ?_; rintro e3 w3 ⟨rfl, rfl⟩))
  all_goals
    go_wp2_with fail
    go_ret
    exact ⟨rfl, 1, _, by rw [Go.Sort.alloc_eq_grow]; rfl⟩
end
section
open Go.Sort hiding Below
set_option linter.unusedVariables false
set_option maxRecDepth 100000
set_option maxHeartbeats 2000000
def encN (x : Nat) : Value := .int .i64 ((x % 65536 : Nat) : Int)
def nv (l : List Nat) : List Value := l.map encN
theorem nv_len (l : List Nat) : (nv l).length = l.length := by simp [nv]
theorem nv_get {l : List Nat} {i : Nat} {x : Nat} (h : l[i]? = some x) : (nv l)[i]? = some (encN x) := by simp [nv, h]
theorem nv_app (l m : List Nat) : nv (l ++ m) = nv l ++ nv m := by simp [nv]
theorem nv_one (l : List Nat) : ∀ u ∈ nv l, u.oneCell' = true := by
  intro u hu
  simp [nv] at hu
  obtain ⟨x, _, rfl⟩ := hu
  rfl
def dN (op : Nat → Option (Int × Int)) (x : Nat) : Int := deadO op ((x % 65536 : Nat) : Int)
def cfN (op : Nat → Option (Int × Int)) (x y : Nat) : Int := or2 (cmpI (dN op x) (dN op y)) (cmpI ((x % 65536 : Nat) : Int) ((y % 65536 : Nat) : Int))
/-- By times, then numbers. -/
def ltN (op : Nat → Option (Int × Int)) (x y : Nat) : Prop := dN op x < dN op y ∨ (dN op x = dN op y ∧ x % 65536 < y % 65536)
theorem cmpI_ways (a b : Int) : (a < b ∧ cmpI a b = -1) ∨ (a = b ∧ cmpI a b = 0) ∨ (b < a ∧ cmpI a b = 1) := by
  unfold cmpI
  by_cases h1 : a < b
  · rw [if_pos h1]; exact Or.inl ⟨h1, rfl⟩
  · rw [if_neg h1]
    by_cases h2 : b < a
    · rw [if_pos h2]; exact Or.inr (Or.inr ⟨h2, rfl⟩)
    · rw [if_neg h2]; exact Or.inr (Or.inl ⟨by omega, rfl⟩)
variable {op : Nat → Option (Int × Int)}
theorem ltN_of (x y : Nat) : ltOf (cfN op) x y = true ↔ ltN op x y := by
  unfold ltOf
  rw [decide_eq_true_iff]
  unfold cfN or2 ltN
  rcases cmpI_ways (dN op x) (dN op y) with ⟨h1, e1⟩ | ⟨h1, e1⟩ | ⟨h1, e1⟩ <;> rcases cmpI_ways ((x % 65536 : Nat) : Int) ((y % 65536 : Nat) : Int) with ⟨h2, e2⟩ | ⟨h2, e2⟩ | ⟨h2, e2⟩ <;>
    (rw [e1, e2]; simp; omega)
theorem ltN_off (x y : Nat) : ltOf (cfN op) x y = false ↔ ¬ ltN op x y := by
  rw [← ltN_of]; simp
theorem swoN : SWO (ltOf (cfN op)) where
  irrefl x := by rw [ltN_off]; unfold ltN; omega
  trans x y z h1 h2 := by rw [ltN_of] at *; unfold ltN at *; omega
  ntrans x y z h1 h2 := by rw [ltN_off] at *; unfold ltN at *; omega
section
variable {w0 w w' : World} {S0 S : Nat → Prop} {L : List Res}
theorem holdsN {g off n c : Nat} {l : List Nat} (h : Lis w 3 1 (.slice (some ⟨g, off, none⟩) n c) n (nv l)) (hn0 : 0 < n) : Holds encN w g off l.toArray := fun j hj => by
  have hj' : j < l.length := by simpa using hj
  have hc := (h.reads.2.resolve_left (by omega))
  obtain ⟨g', off', hA, hc⟩ := hc
  injection hA with hA
  injection hA with e1 e2
  subst e1 e2
  refine ⟨?_, h.frozen _⟩
  have := hc j _ (nv_get (List.getElem?_eq_getElem hj'))
  rw [this]; simp [hj']
theorem sortw_st {g off n c i : Nat} {l : List Nat} (H : St w0 S0 w L) (hi : L[i]? = some (LisR 3 1 (.slice (some ⟨g, off, none⟩) n c) n (nv l))) (hn0 : 0 < n) (m : Nat) (os : Array Obj) (dk : Array Nat) (hd : dk.size = n) :
    St w0 S0 (sortWorld encN w g off m dk os) (L.set i (LisR 3 1 (.slice (some ⟨g, off, none⟩) n c) n (nv dk.toList))) := by
  have h := H.lis i hi
  have hol : (nv l).length = n * 1 := h.1
  have hl : l.length = n := by rw [nv_len] at hol; omega
  have hH := holdsN h hn0
  unfold sortWorld
  refine St.grown ?_ os
  have hv : (nv dk.toList).length = n := by rw [nv_len]; simpa using hd
  have e := Lib.putRow_eq_setCells encN w g off l.toArray dk.toList m hH (by simp [hl, hd])
  rw [show dk.toList.toArray = dk by simp] at e
  rw [e]
  have hk : Lis (w.drewN m) 3 1 (.slice (some ⟨g, off, none⟩) n c) n (nv l) := h.keep fun _ _ => rfl
  obtain ⟨h1, h2⟩ := lis_within_m hk 0 (nv dk.toList) (by omega) hn0
  rw [Nat.add_zero, List.take_zero, List.nil_append, List.drop_of_length_le (by omega), List.append_nil] at h1
  rw [Nat.add_zero] at h2
  exact (H.drewN m).lis_only i hi h1 h2
theorem sort_n {g off n c i j k e q b mb N : Nat} {l : List Nat} {V : Nat → Value} (H : St w0 S0 w L) (hi : L[i]? = some (LisR 3 1 (.slice (some ⟨g, off, none⟩) n c) n (nv l))) (hn1 : n ≤ 100000) (hn0 : 0 < n)
    (hj : L[j]? = some (BlkR q 105 #[.pointer (some ⟨b, 0, none⟩)])) (hk : L[k]? = some (ArrR b 218 68 V)) (hV : V 2 = .map (some mb)) (he : L[e]? = some (MapZR Tryz.prog 3 mb N (mapO op))) (hij : i ≠ j) (hik : i ≠ k) (hie : i ≠ e) :
    Calls Tryz.prog 161 #[.slice (some ⟨g, off, none⟩) n c, .func (.func 162) #[] #[.pointer (some ⟨q, 0, none⟩)]] w fun e w' => e = .returned (.tuple #[]) ∧ ∃ l' : List Nat, l'.Perm l ∧ (∀ (a b : Nat) x y, a < b → l'[a]? = some x → l'[b]? = some y → ¬ ltN op y x) ∧
      St w0 S0 w' (L.set i (LisR 3 1 (.slice (some ⟨g, off, none⟩) n c) n (nv l'))) := by
  have h := H.lis i hi
  have hol : (nv l).length = n * 1 := h.1
  have hl : l.length = n := by rw [nv_len] at hol; omega
  have hsz : l.toArray.size = n := by simp [hl]
  have eg : ∀ args w, (callFunc 162 args).run Tryz.prog w = .ok (.enter 162 args) w := enters_of Tryz.func162 (by kernel_rfl) rfl
  have hcmp : CmpLays1 Tryz.prog 162 #[.pointer (some ⟨q, 0, none⟩)] encN (cfN op) g off n w := fun m os dk hd x y => by
    have s1 := sortw_st H hi hn0 m os dk hd
    have q1 := (s1.blk j (by rw [List.getElem?_set_ne hij]; exact hj)).one
    have b1 := s1.arr_cell k (by rw [List.getElem?_set_ne hik]; exact hk) (k := 2) (by omega)
    rw [hV] at b1
    have m1 := s1.mapz e (by rw [List.getElem?_set_ne hie]; exact he)
    exact late1_c q1 b1 m1 (wf_small (by omega) (by omega)) (wf_small (by omega) (by omega))
  have hcon := Any.slices_SortFunc sortV encN (fun _ => rfl) (cfN op) swoN 162 #[.pointer (some ⟨q, 0, none⟩)] g off c l.toArray w eg (by rw [hsz]; exact hcmp) (holdsN h hn0) (h.lt rfl) (by omega)
  rw [hsz] at hcon
  change Calls Tryz.prog 161 _ _ _ at hcon
  refine hcon.mono ?_
  rintro e w' ⟨rfl, d', m, os, hp, hs, rfl⟩
  have hd : d'.size = n := by rw [hp.1, hsz]
  have hpl : d'.toList.Perm l := by
    have := hp.2.2
    rwa [← hd, Array.extract_size, hd, ← hsz, Array.extract_size] at this
  refine ⟨rfl, d'.toList, hpl, fun a b x y hab hx hy => ?_, sortw_st H hi hn0 m os d' hd⟩
  have hb : b < d'.toList.length := (List.getElem?_eq_some_iff.1 hy).1
  have := hs a b (Nat.zero_le _) hab (by simpa [hd] using hb)
  rw [ltN_off] at this
  have ex : d'[a]! = x := by simp only [Array.getElem?_toList] at hx; rw [getElem!_def, hx]
  have ey : d'[b]! = y := by simp only [Array.getElem?_toList] at hy; rw [getElem!_def, hy]
  rwa [ex, ey] at this
end
end
section
set_option linter.unusedVariables false
set_option maxRecDepth 100000
set_option maxHeartbeats 2000000
theorem len64_0 (w : World) : Calls Tryz.prog 182 #[.int .u64 0] w fun e w' => e = .returned (.int .i64 0) ∧ w = w' := by
  go_enter Tryz.func182, Tryz.ntmps182
  go_wp2
  go_ret
  refine ⟨congrArg (fun z => Ending.returned (Value.int IntKind.i64 z)) ?_, rfl⟩
  have a := Lib.len8_of 0 (by omega) (by omega)
  have b : (Lib.bitLen (0 : Int).toNat : Int) = 0 := by decide
  rw [b] at a
  first
    | omega
    | (rw [a]; rfl)
    | (rw [a]; decide)
    | (rw [a]; simp)
    | (rw [a]; kernel_rfl)
    | (rw [a]; simp [wrap64])
    | (rw [a]; simp [wrap64]; omega)
theorem len_0 (w : World) : Calls Tryz.prog 178 #[.int .u64 0] w fun e w' => e = .returned (.int .i64 0) ∧ w = w' := by
  go_enter Tryz.func178, Tryz.ntmps178
  go_wp2_with (go_at_call 182; refine (len64_0 _).mono ?_; rintro e w' ⟨rfl, rfl⟩)
  go_ret
  exact ⟨rfl, rfl⟩
theorem ins_0 (A : Option Addr) (c : Nat) (f : Value) (w : World) : Calls Tryz.prog 185 #[.slice A 0 c, .int .i64 0, .int .i64 0, f] w fun e w' => e = .returned (.tuple #[]) ∧ w = w' := by
  go_enter Tryz.func185, Tryz.ntmps185
  go_wp2_with fail
  go_loopw [8] (fun i wr => i = .int .i64 1 ∧ wr = w) (fun i _ => 0)
  case atStart => exact ⟨rfl, rfl⟩
  case round =>
  obtain ⟨rfl, rfl⟩ := hrel
  go_wp2_with fail
  go_end0
  exact ⟨rfl, rfl⟩
theorem pdq_0 (A : Option Addr) (c : Nat) (f : Value) (w : World) : Calls Tryz.prog 177 #[.slice A 0 c, .int .i64 0, .int .i64 0, .int .i64 0, f] w fun e w' => e = .returned (.tuple #[]) ∧ w = w' := by
  have IC := Lib.hid (ins_0 A c f w)
  go_enter Tryz.func177, Tryz.ntmps177
  go_wp2_with fail
  go_loopw [1, 2, 3] (fun a b l wr => a = .int .i64 0 ∧ b = .int .i64 0 ∧ l = .int .i64 0 ∧ wr = w) (fun _ _ _ _ => 0)
  case atStart => exact ⟨rfl, rfl, rfl, rfl⟩
  case round =>
  obtain ⟨rfl, rfl, rfl, rfl⟩ := hrel
  go_wp2_with fail
  refine IC.out.mono ?_
  rintro e w1 ⟨rfl, rfl⟩
  go_wp2_with fail
  refine bodyPost_ret (v := .tuple #[]) ?_ rfl ⟨rfl, rfl⟩
  simp [results, go_sem]
theorem sort_0 (A : Option Addr) (c : Nat) (f : Value) (w : World) : Calls Tryz.prog 161 #[.slice A 0 c, f] w fun e w' => e = .returned (.tuple #[]) ∧ w = w' := by
  have LC := Lib.hid (len_0 w)
  have PC := Lib.hid (pdq_0 A c f w)
  go_enter Tryz.func161, Tryz.ntmps161
  go_wp2_with fail
  refine LC.out.mono ?_
  rintro e w1 ⟨rfl, rfl⟩
  go_wp2_with fail
  refine PC.out.mono ?_
  rintro e w1 ⟨rfl, rfl⟩
  go_wp2_with fail
  go_end0
  exact ⟨rfl, rfl⟩
def BookG (b cw mb : Nat) (A : Option Addr) (cap : Nat) (s : Bk) (now : Int) (T : Int → Option Int) : List Res :=
  [ArrR b 218 68 (bkV s cw mb A cap), WheelR cw now T, MapZR Tryz.prog 3 mb (cntO s.op) (mapO s.op), LisR 82 3 (.slice A s.un.length cap) s.un.length (fvs s.un)]
/-- The number of who has a timer. -/
def idN (op : Nat → Option (Int × Int)) (t : Int) : Nat := (wsO op t.toNat).toNat
/-- Late ones, by time, then number. -/
def LateP (op : Nat → Option (Int × Int)) (o : List Int) (l : List Nat) : Prop := l.Perm (o.map (idN op)) ∧ ∀ (a b : Nat) x y, a < b → l[a]? = some x → l[b]? = some y → ¬ ltN op y x
theorem wsO_id {s : Bk} (ok : s.ok) {k : Nat} (h : s.op k ≠ none) : ∃ u : Nat, wsO s.op k = (u : Int) ∧ u < 65536 := by
  cases ho : s.op k with
  | none => exact absurd ho h
  | some x =>
    have := ok.bd k x ho
    refine ⟨x.1.toNat, ?_, by omega⟩
    unfold wsO; rw [ho]
    show x.1 = _
    omega
section
variable {w0 w w' : World} {S0 : Nat → Prop} {L X : List Res} {b cw mb cap n c : Nat} {A T : Option Addr} {s : Bk} {o : List Int} {now : Int} {tt : Int → Option Int}
theorem late_c (H : St w0 S0 w (BookG b cw mb A cap s now tt ++ X)) (ok : s.ok) {i : Nat} (hi : X[i]? = some (LisR 3 1 (.slice T n c) n (iv o))) (hn : o.length = n) (hn1 : n ≤ 1000) (ho : ∀ t ∈ o, 0 ≤ t ∧ t < 64 ∧ s.op t.toNat ≠ none) :
    Calls Tryz.prog 138 #[.pointer (some ⟨b, 0, none⟩), .slice T n c] w fun e w' => ∃ B d q l, e = .returned (.slice B n d) ∧ LateP s.op o l ∧ St w0 S0 w' (LisR 3 1 (.slice B n d) n (nv l) :: BlkR q 105 #[.pointer (some ⟨b, 0, none⟩)] :: (BookG b cw mb A cap s now tt ++ X)) := by
  obtain ⟨iI, hiI, hzI, hsI, hbI⟩ := info3w YtdjhpdacglojaaaGreatiI
  have s1 := H.front 105 #[.pointer (some ⟨b, 0, none⟩)]
  obtain ⟨q, hq⟩ : ∃ q, w.heap.size = q := ⟨_, rfl⟩
  obtain ⟨w1, hw1⟩ : ∃ w1, w.alloc (.cells #[.pointer (some ⟨b, 0, none⟩)] 105) = w1 := ⟨_, rfl⟩
  rw [hq, hw1] at s1
  have s2 := St.comm (B := [LisR 3 1 (.slice none 0 0) 0 []]) (s1.lis_nil 3 1)
  have S2 := Lib.hid (show St w0 S0 w1 (LisR 3 1 (.slice none 0 0) 0 (nv ((o.take 0).map (idN s.op))) :: BlkR q 105 #[.pointer (some ⟨b, 0, none⟩)] :: (BookG b cw mb A cap s now tt ++ X)) from s2)
  have HOK := Lib.hid ok
  have HO := Lib.hid ho
  have HN := Lib.hid hn
  have hi6 : (LisR 3 1 (.slice none 0 0) 0 [] :: BlkR q 105 #[.pointer (some ⟨b, 0, none⟩)] :: (BookG b cw mb A cap s now tt ++ X))[6 + i]? = some (LisR 3 1 (.slice T n c) n (iv o)) := by
    rw [show 6 + i = (4 + i) + 1 + 1 by omega, List.getElem?_cons_succ, List.getElem?_cons_succ]
    show (BookG b cw mb A cap s now tt ++ X)[4 + i]? = _
    rw [List.getElem?_append_right (by simp [BookG])]
    simpa [BookG] using hi
  have HI := Lib.hid (show ∀ R, (R :: BlkR q 105 #[.pointer (some ⟨b, 0, none⟩)] :: (BookG b cw mb A cap s now tt ++ X))[6 + i]? = some (LisR 3 1 (.slice T n c) n (iv o)) from fun R => by
    rw [show 6 + i = (5 + i) + 1 by omega] at hi6 ⊢
    exact hi6)
  clear H s1 s2 ok ho hn hi6 hi
  go_enter Tryz.func138, Tryz.ntmps138
  go_wp2_with fail
  go_loopw [5, 10] (fun x y wr => ∃ (k : Nat) (B : Option Addr) (d : Nat), k ≤ n ∧ y = .int .i64 (k : Int) ∧ x = .slice B k d ∧ St w0 S0 wr (LisR 3 1 (.slice B k d) k (nv ((o.take k).map (idN s.op))) :: BlkR q 105 #[.pointer (some ⟨b, 0, none⟩)] :: (BookG b cw mb A cap s now tt ++ X))) (fun _ y _ => n - (intOf y).toNat)
  case atStart => exact ⟨0, none, 0, by omega, rfl, rfl, S2.out⟩
  case round =>
    clear S2 hw1 hq
    obtain ⟨k, B, d, hk, rfl, rfl, sr⟩ := hrel
    have SR := Lib.hid sr
    by_cases hlt : k < n
    · have t1 : decide ((k : Int) < (n : Int)) = true := decide_eq_true (by omega)
      have t1' : decide (k < n) = true := decide_eq_true hlt
      obtain ⟨t, ht⟩ : ∃ t, o[k]? = some t := ⟨_, List.getElem?_eq_getElem (show k < o.length by rw [HN.out]; exact hlt)⟩
      obtain ⟨h0, h1, h2⟩ := HO.out t (List.mem_of_getElem? ht)
      obtain ⟨tn, rfl⟩ : ∃ tn : Nat, t = (tn : Int) := ⟨t.toNat, by omega⟩
      rw [Int.toNat_natCast] at h2
      obtain ⟨u, hu, hu6⟩ := wsO_id HOK.out h2
      have hT := (sr.lis (6 + i) (HI.out _)).reads.2.resolve_left (by omega)
      obtain ⟨g, off, rfl, hc⟩ := hT
      have x0 := hc k _ (iv_get ht)
      have b0 := (sr.blk 1 rfl).one
      have c1 := sr.arr_cell 2 rfl (k := 3 + tn) (by omega)
      unfold bkV at c1
      rw [if_neg (by omega), if_neg (by omega), if_neg (by omega), if_pos (by omega), Nat.add_sub_cancel_left, hu] at c1
      have s5 := sr.alloc (.cells #[.int .i64 (u : Int)] 3)
      have S5 := Lib.hid s5
      have HL5 := Lib.hid (s5.lis 0 rfl)
      have RB := Lib.hid (rds_box wr 3 (.int .i64 (u : Int)))
      have HV := Lib.hid (show nv ((o.take k).map (idN s.op)) ++ [.int .i64 (u : Int)] = nv ((o.take (k + 1)).map (idN s.op)) by
        rw [List.take_add_one, ht, List.map_append, nv_app]
        show _ = _ ++ nv [idN s.op (tn : Int)]
        congr 1
        unfold nv encN idN
        rw [Int.toNat_natCast, hu]
        simp
        omega)
      clear hc sr s5 SR ht h2 hu
      go_wp2_with (first
        | (at_builtin; refine wpList_lis rfl (.tmp 14) (.tmp 21) 35 rfl 3 iI (.int .i64 0) 1 8 Tryz.underlying35 hiI hzI hsI hbI rfl (by decide) _ _ _ rfl HL5.out _ 1 1 [.int .i64 (u : Int)] rfl RB.out (by simp [Value.oneCell']) (by unfold maxLen; omega) (by omega) ?_; intro D cD w6 hl hg hat; have t6 := S5.out.lis_put 0 rfl hl hg hat; rw [HV.out] at t6; have S6 := Lib.hid t6; clear hl hg hat t6)
        | fail)
      go_roundw
      case rel => exact ⟨k + 1, D, cD, by omega, by go_num, rfl, S6.out⟩
      case measure => simp [intOf]; omega
    · obtain rfl : k = n := by omega
      have t1 : decide ((k : Int) < (k : Int)) = false := decide_eq_false (by omega)
      have t1' : decide (k < k) = false := decide_eq_false hlt
      have SC0 : Calls Tryz.prog 161 #[.slice B k d, .func (.func 162) #[] #[.pointer (some ⟨q, 0, none⟩)]] wr fun e w' => e = .returned (.tuple #[]) ∧ ∃ l' : List Nat, LateP s.op o l' ∧
          St w0 S0 w' (LisR 3 1 (.slice B k d) k (nv l') :: BlkR q 105 #[.pointer (some ⟨b, 0, none⟩)] :: (BookG b cw mb A cap s now tt ++ X)) := by
        have et : (o.take k).map (idN s.op) = o.map (idN s.op) := by rw [List.take_of_length_le (by rw [HN.out]; exact Nat.le_refl k)]
        rw [et] at sr
        rcases Nat.eq_zero_or_pos k with h0 | h0
        · subst h0
          have hnil : o = [] := List.eq_nil_of_length_eq_zero HN.out
          refine (sort_0 B d _ wr).mono ?_
          rintro e w2 ⟨rfl, rfl⟩
          exact ⟨rfl, _, ⟨List.Perm.refl _, fun a b x y _ hx => by rw [hnil] at hx; simp at hx⟩, sr⟩
        · obtain ⟨g, off, rfl, _⟩ := (sr.lis 0 rfl).reads.2.resolve_left (by omega)
          refine (sort_n (op := s.op) (j := 1) (k := 2) (e := 4) sr (i := 0) rfl (by omega) h0 rfl rfl (by unfold bkV; rw [if_neg (by omega), if_neg (by omega), if_pos rfl]) rfl (by omega) (by omega) (by omega)).mono ?_
          rintro e w2 ⟨rfl, l', h1, h2, h3⟩
          exact ⟨rfl, l', ⟨h1, h2⟩, h3⟩
      have SC := Lib.hid SC0
      clear SC0 sr SR
      go_wp2_with fail
      refine SC.out.mono ?_
      rintro e w2 ⟨rfl, l', h1, h2⟩
      have K := Lib.hid (And.intro h1 h2)
      clear h1 h2 SC
      go_wp2_with fail
      go_ret
      exact ⟨B, d, q, l', rfl, K.out.1, K.out.2⟩
end
end
section
set_option linter.unusedVariables false
set_option maxRecDepth 100000
set_option maxHeartbeats 4000000
section
variable {w0 w w' : World} {S0 : Nat → Prop} {L X : List Res} {b cw mb cap : Nat} {A : Option Addr} {s : Bk} {id now : Int} {T : Int → Option Int}
theorem bg_cell (H : St w0 S0 w (BookG b cw mb A cap s now T ++ X)) {j : Nat} (hj : j < 68) : w.cell? ⟨b, j, none⟩ = some (bkV s cw mb A cap j) := H.arr_cell 0 rfl hj
theorem bg_look (H : St w0 S0 w (BookG b cw mb A cap s now T ++ X)) (hid : wfI id) : (Instr.lookup 215 (.map (some mb)) (.int .i64 id) true).run Tryz.prog w = .ok (.tuple #[(mapO s.op id).getD (.agg #[.int .i64 0, .int .u64 0]), .bool (slotO s.op id).isSome]) w := by
  have h := (H.mapz 2 rfl).mapi.look Tryz.underlying3 Tryz.underlying215 (YtdjhpdacglojaaaGreatzOpen w) hid
  have e : (mapO s.op id).isSome = (slotO s.op id).isSome := by unfold mapO; simp
  rw [e] at h; exact h
theorem lOut_mid (H : St w0 S0 w (BookG b cw mb A cap s now T ++ X)) (U : UqO s.op) (bd : ∀ k x, s.op k = some x → 0 ≤ x.1 ∧ x.1 ≤ 65535) (f : Ft) {k : Nat} (hs : slotO s.op f.id = some k) (hun : s.un.length ≤ 100000) : Calls Tryz.prog 135 #[.pointer (some ⟨b, 0, none⟩), .agg f.cells] w fun e w' => e = .returned (.int .i64 0) ∧ ∃ A' cap', St w0 S0 w' (BookG b cw mb A' cap' { s with op := updO s.op k none, un := s.un ++ [f] } now (updT T (k : Int) none) ++ X) := by
  obtain ⟨iF, hiF, hzF, hsF, hbF⟩ := info3l YtdjhpdacglojaaaGreatiFt
  obtain ⟨hk6, d, hop⟩ := slot_some hs
  have hbd := bd k _ hop
  dsimp only at hbd
  have hid : wfI f.id := wf_small (by omega) (by omega)
  have hkw : wfI (k : Int) := wf_small (by omega) (by omega)
  have s1 := H.front 82 f.cells
  obtain ⟨g, hg⟩ : ∃ g, w.heap.size = g := ⟨_, rfl⟩
  obtain ⟨w1, hw1⟩ : ∃ w1, w.alloc (.cells f.cells 82) = w1 := ⟨_, rfl⟩
  rw [hg, hw1] at s1
  obtain ⟨f0, f1, f2⟩ := (s1.blk 0 rfl).three
  have s2 := s1.front 212 #[.int .i64 (k : Int), .int .u64 d]
  obtain ⟨g5, hg5⟩ : ∃ g, w1.heap.size = g := ⟨_, rfl⟩
  rw [hg5] at s2
  obtain ⟨g0, g1, g2⟩ := (s2.blk 1 rfl).three
  have s3 : St w0 S0 w1 (BookG b cw mb A cap s now T ++ X) := s1.drop 0 (by simp)
  have s4 : St w0 S0 (w1.alloc (.cells #[.int .i64 (k : Int), .int .u64 d] 212)) (BookG b cw mb A cap s now T ++ X) := (s2.drop 0 (by simp)).drop 0 (by simp)
  have c2 := bg_cell s3 (j := 2) (by omega)
  have d2 := bg_cell s4 (j := 2) (by omega)
  unfold bkV at c2 d2
  rw [if_neg (by omega), if_neg (by omega), if_pos rfl] at c2 d2
  have e2 : mapO s.op f.id = some (.agg #[.int .i64 (k : Int), .int .u64 d]) := by
    unfold mapO; rw [hs]; show some (mapF s.op k) = _; unfold mapF; rw [hop]; rfl
  have lk := bg_look s3.drew hid
  have lk2 := bg_look s4.drew hid
  rw [hs, e2] at lk lk2
  have lk : (Instr.lookup 215 (.map (some mb)) (.int .i64 f.id) true).run Tryz.prog w1.drew = .ok (.tuple #[.agg #[.int .i64 (k : Int), .int .u64 d], .bool true]) w1.drew := lk
  have lk2 : (Instr.lookup 215 (.map (some mb)) (.int .i64 f.id) true).run Tryz.prog (w1.alloc (.cells #[.int .i64 0, .int .u64 0] 212)).drew = .ok (.tuple #[.agg #[.int .i64 (k : Int), .int .u64 d], .bool true]) (w1.alloc (.cells #[.int .i64 0, .int .u64 0] 212)).drew := by
    have h := bg_look (s3.alloc (.cells #[.int .i64 0, .int .u64 0] 212)).drew hid
    rw [hs, e2] at h; exact h
  have z0 := (s1.alloc (.cells #[.int .i64 0, .int .u64 0] 212)).blk 0 rfl
  obtain ⟨z0, z1, z2⟩ := z0.three
  have z3 := bg_cell (s3.alloc (.cells #[.int .i64 0, .int .u64 0] 212)) (j := 2) (by omega)
  unfold bkV at z3
  rw [if_neg (by omega), if_neg (by omega), if_pos rfl] at z3
  have S2 := Lib.hid s2
  have HU := Lib.hid U
  have HOP := Lib.hid hop
  clear H s1 s2 s3 s4 hs e2 U bd hop
  go_enter Tryz.func135, Tryz.ntmps135
  go_wp2_with fail
  go_cut [5, 6] (fun x5 x6 wx => x5 = .pointer (some ⟨g5, 0, none⟩) ∧ x6 = .bool true ∧ wx = (w1.alloc (.cells #[.int .i64 (k : Int), .int .u64 d] 212)).drew)
  case first =>
    go_region
    all_goals
      go_wp2_with fail
      go_meet
      exact ⟨rfl, rfl, rfl⟩
  case rest =>
  obtain ⟨rfl, rfl, rfl⟩ := hcut
  clear c2 d2 z0 z1 z2 z3 lk lk2 f0 f1 f2 g0 g1 g2
  have S3 := Lib.hid S2.out.drew
  clear S2 hg5 hw1 hg
  generalize (w1.alloc (.cells #[.int .i64 (k : Int), .int .u64 d] 212)).drew = w2 at *
  obtain ⟨h0, h1⟩ := (S3.out.blk 0 rfl).two
  obtain ⟨g0, g1, g2⟩ := (S3.out.blk 1 rfl).three
  have c1 := S3.out.arr_cell 2 rfl (k := 1) (by omega)
  unfold bkV at c1
  rw [if_neg (by omega), if_pos rfl] at c1
  obtain ⟨wa, hwa⟩ : ∃ wa : Int, (if (T (k : Int)).isSome = true then 0 else 6) = wa := ⟨_, rfl⟩
  have WC := Lib.hid (wCancel_o S3.out.drew 3 rfl hkw)
  rw [hwa] at WC
  clear S3 hwa
  go_wp2_with fail
  go_cut [] (fun wx => St w0 S0 wx (BlkR g5 212 #[.int .i64 (k : Int), .int .u64 d] :: BlkR g 82 f.cells :: (BookM b cw mb (bkV s cw mb A cap) now (updT T (k : Int) none) (cntO s.op) (mapO s.op) A cap s.un ++ X)))
  case first =>
    go_region_law (first
      | (go_simp; refine WC.out.mono ?_; rintro e3 w3 ⟨rfl, s3⟩; have S4 := Lib.hid s3; clear s3))
    all_goals
      go_wp2_with fail
      go_meet
      exact S4.out
  case rest =>
  clear WC h0 h1 g0 g1 g2 c1
  have S4 := Lib.hid hcut
  obtain ⟨h0, h1⟩ := (S4.out.blk 0 rfl).two
  have c1 := S4.out.arr_cell 2 rfl (k := 3 + k) (by omega)
  have c2 := S4.out.arr_frozen 2 rfl (3 + k)
  unfold bkV at c1
  rw [if_neg (by omega), if_neg (by omega), if_neg (by omega), if_pos (by omega)] at c1
  have v0 : (0 : Int) ≤ (k : Int) := by omega
  have v1 : (k : Int) < 64 := by omega
  obtain ⟨V1, hV1⟩ : ∃ V1 : Nat → Value, V1 = fun j => if j = 3 + k then .int .i64 (-1) else bkV s cw mb A cap j := ⟨_, rfl⟩
  have S5 := Lib.hid (show St w0 S0 (wc.setCell ⟨b, 3 + k, none⟩ (.int .i64 (-1))) (BlkR g5 212 #[.int .i64 (k : Int), .int .u64 d] :: BlkR g 82 f.cells :: (BookM b cw mb V1 now (updT T (k : Int) none) (cntO s.op) (mapO s.op) A cap s.un ++ X)) by rw [hV1]; exact S4.out.arr_set 2 rfl (by omega) _)
  have HV1 := Lib.hid hV1
  have HVN := Lib.hid (show ∀ j, j ≠ 3 + k → V1 j = bkV s cw mb A cap j from fun j hj => by rw [hV1]; exact if_neg hj)
  clear hcut S4 hV1
  go_wp2_with fail
  go_cut [] (fun wx => St w0 S0 wx (BlkR g5 212 #[.int .i64 (k : Int), .int .u64 d] :: BlkR g 82 f.cells :: (BookM b cw mb V1 now (updT T (k : Int) none) (cntO s.op) (mapO s.op) A cap s.un ++ X)))
  case first =>
    go_region
    all_goals
      go_wp2_with fail
      go_meet
      exact S5.out.drew
  case rest =>
  clear S5 h0 h1 c1 c2 v0 v1
  have S6 := Lib.hid hcut.drew
  obtain ⟨g0, g1, g2⟩ := (S6.out.blk 1 rfl).three
  have c2 := S6.out.arr_cell 2 rfl (k := 2) (by omega)
  rw [HVN.out 2 (by omega)] at c2
  unfold bkV at c2
  rw [if_neg (by omega), if_neg (by omega), if_pos rfl] at c2
  have MZ := Lib.hid (S6.out.mapz 4 rfl)
  clear hcut
  go_wp2_with fail
  go_cut [] (fun wx => St w0 S0 wx (BlkR g5 212 #[.int .i64 (k : Int), .int .u64 d] :: BlkR g 82 f.cells :: (BookM b cw mb V1 now (updT T (k : Int) none) (cntO s.op - if (mapO s.op f.id).isSome = true then 1 else 0) (updI (mapO s.op) f.id none) A cap s.un ++ X)))
  case first =>
    go_region_law (first
      | (refine step_mapZ_del (by rfl) _ _ 215 3 (by rfl) 212 Tryz.underlying3 Tryz.underlying215 mb (cntO s.op) (mapO s.op) (by rfl) MZ.out f.id hid (by rfl) ?_; intro w3 hm3 hg3; have S7 := Lib.hid (S6.out.mapz_turn 4 rfl hm3 hg3); clear hm3 hg3))
    all_goals
      go_wp2_with fail
      go_meet
      exact S7.out
  case rest =>
  clear MZ c2 g0 g1 g2 S6
  have e2 : mapO s.op f.id = some (mapF s.op k) := by unfold mapO; rw [HU.out.slot HOP.out]; rfl
  have ec : cntO s.op - (if (mapO s.op f.id).isSome = true then 1 else 0) = cntO (updO s.op k none) := by
    rw [e2, if_pos (show (some (mapF s.op k)).isSome = true from rfl)]
    have := cntO_del hk6 HOP.out
    omega
  rw [ec, ← mapO_del HU.out HOP.out] at hcut
  have K0 := (hcut.drop 0 (by simp))
  have s7 := (K0.alloc (.cells f.cells 82)).drew
  obtain ⟨g0, g1, g2⟩ := (K0.blk 0 rfl).three
  obtain ⟨x0, x1, x2⟩ := ((K0.alloc (.cells f.cells 82)).blk 0 rfl).three
  have c1 := K0.arr_cell 1 rfl (k := 67) (by omega)
  have c3 := (K0.alloc (.cells f.cells 82)).arr_cell 1 rfl (k := 67) (by omega)
  rw [HVN.out 67 (by omega)] at c1 c3
  unfold bkV at c1 c3
  rw [if_neg (by omega), if_neg (by omega), if_neg (by omega), if_neg (by omega)] at c1 c3
  have sN := (K0.lis_new 82 3 1 f.cells rfl (by unfold maxLen; omega)).comm
  have RB := Lib.hid (show Rds ((wc.alloc (.cells f.cells 82)).drew) (some ⟨wc.heap.size, 0, none⟩) 1 3 (fvs [f]) from (sN.drew.lis 0 rfl).reads)
  obtain ⟨nu, hnu⟩ : ∃ nu, s.un.length = nu := ⟨_, rfl⟩
  rw [hnu] at hun c1 c3
  have s7 : St w0 S0 ((wc.alloc (.cells f.cells 82)).drew) ([BlkR g 82 f.cells, ArrR b 218 68 V1, WheelR cw now (updT T (k : Int) none), MapZR Tryz.prog 3 mb (cntO (updO s.op k none)) (mapO (updO s.op k none)), LisR 82 3 (.slice A nu cap) nu (fvs s.un)] ++ X) := by rw [← hnu]; exact s7
  have HL4 := Lib.hid (s7.lis 4 rfl)
  have S7 := Lib.hid s7
  have HNU := Lib.hid hnu
  clear hcut K0 s7 sN e2 ec hnu
  go_wp2_with fail
  go_region_law (first
    | (refine step_lis (by rfl) _ _ _ (by rfl) 82 iF (.agg #[.int .i64 0, .int .i64 0, .int .i64 0]) 3 24 Tryz.underlying58 hiF hzF hsF hbF (by rfl) (by omega) (.slice A nu cap) nu (fvs s.un) (by rfl) HL4.out _ 1 1 (fvs [f]) (by rfl) RB.out (fvs_one f) (by unfold maxLen; omega) (by omega) ?_; intro D cD w5 hl hg hat; have t5 := S7.out.lis_put 4 rfl hl hg hat; have m1 := t5.arr_cell 1 rfl (k := 67) (by omega); rw [HVN.out 67 (by omega)] at m1; unfold bkV at m1; rw [if_neg (by omega), if_neg (by omega), if_neg (by omega), if_neg (by omega)] at m1; have m2 := t5.arr_frozen 1 rfl 67; have T6 := Lib.hid (t5.arr_set 1 rfl (k := 67) (by omega) (.slice D (nu + 1) cD)); clear hl hg hat t5))
  all_goals
    go_wp2_with fail
    go_ret
    refine ⟨rfl, D, cD, ?_⟩
    have T7 := T6.out.drop 0 (by simp)
    have T8 := T7.arr_like (V' := bkV { s with op := updO s.op k none, un := s.un ++ [f] } cw mb D cD) 0 rfl (fun j hj => by
      show bkV _ cw mb D cD j = if j = 67 then .slice D (nu + 1) cD else V1 j
      rw [show V1 j = if j = 3 + k then .int .i64 (-1) else bkV s cw mb A cap j by rw [HV1.out]]
      unfold bkV
      dsimp only
      by_cases e0 : j = 0
      · subst e0; rw [if_pos rfl, if_neg (by omega), if_neg (by omega), if_pos rfl]
      by_cases e1 : j = 1
      · subst e1; rw [if_neg e0, if_pos rfl, if_neg (by omega), if_neg (by omega), if_neg e0, if_pos rfl]
      by_cases e2 : j = 2
      · subst e2; rw [if_neg e0, if_neg e1, if_pos rfl, if_neg (by omega), if_neg (by omega), if_neg e0, if_neg e1, if_pos rfl]
      by_cases e3 : j < 67
      · rw [if_neg e0, if_neg e1, if_neg e2, if_pos e3, if_neg (by omega)]
        unfold wsO
        by_cases e4 : j = 3 + k
        · rw [if_pos e4, show j - 3 = k by omega, updO_self]
        · rw [if_neg e4, if_neg e0, if_neg e1, if_neg e2, if_pos e3, updO_ne _ _ (by omega)]
      · obtain rfl : j = 67 := by omega
        rw [if_neg e0, if_neg e1, if_neg e2, if_neg e3, if_pos rfl, List.length_append, HNU.out]; rfl)
    show St w0 S0 _ ([_, WheelR cw now (updT T (k : Int) none), _, LisR _ 3 (.slice D (s.un ++ [f]).length cD) (s.un ++ [f]).length (fvs (s.un ++ [f]))] ++ X)
    rw [fvs_app, List.length_append, HNU.out]
    exact T8
end
end
section
set_option linter.unusedVariables false
set_option maxRecDepth 100000
set_option maxHeartbeats 2000000
/-- Who is open, once those of a list came out. -/
def opJ (op : Nat → Option (Int × Int)) (l : List Nat) (k : Nat) : Option (Int × Int) := match op k with
  | some x => if x.1.toNat ∈ l then none else some x
  | none => none
theorem opJ_some {op : Nat → Option (Int × Int)} {l : List Nat} {k : Nat} {x : Int × Int} (h : opJ op l k = some x) : op k = some x ∧ x.1.toNat ∉ l := by
  unfold opJ at h
  cases ho : op k with
  | none => rw [ho] at h; cases h
  | some y =>
    rw [ho] at h
    dsimp only at h
    by_cases hm : y.1.toNat ∈ l
    · rw [if_pos hm] at h; cases h
    · rw [if_neg hm] at h; injection h with h; subst h; exact ⟨rfl, hm⟩
theorem opJ_of {op : Nat → Option (Int × Int)} {l : List Nat} {k : Nat} {x : Int × Int} (h : op k = some x) (hm : x.1.toNat ∉ l) : opJ op l k = some x := by
  unfold opJ; rw [h]; exact if_neg hm
theorem opJ_nil (op : Nat → Option (Int × Int)) : opJ op [] = op := by
  funext k; unfold opJ
  cases op k with
  | none => rfl
  | some x => exact if_neg (by simp)
theorem UqO.opJ {op : Nat → Option (Int × Int)} (U : UqO op) (l : List Nat) : UqO (opJ op l) :=
  ⟨fun k x h => U.lt k x (opJ_some h).1, fun j k x y h1 h2 e => U.uq j k x y (opJ_some h1).1 (opJ_some h2).1 e⟩
theorem opJ_step {op : Nat → Option (Int × Int)} (U : UqO op) (pos : ∀ k x, op k = some x → 0 ≤ x.1) {l : List Nat} {id k : Nat} {d : Int} (h : op k = some ((id : Int), d)) : updO (opJ op l) k none = opJ op (l ++ [id]) := by
  funext j
  by_cases e : j = k
  · subst e
    rw [updO_self]
    unfold opJ; rw [h]
    exact (if_pos (by simp)).symm
  · rw [updO_ne _ _ e]
    unfold opJ
    cases hj : op j with
    | none => rfl
    | some x =>
      have hne : x.1.toNat ≠ id := fun he => e (U.uq j k x _ hj h (by have := pos j x hj; show x.1 = (id : Int); omega))
      dsimp only
      by_cases hm : x.1.toNat ∈ l
      · rw [if_pos hm, if_pos (by simp [hm])]
      · rw [if_neg hm, if_neg (by simp [hm, hne])]
/-- Those that came out by their time. -/
def fLate (l : List Nat) : List Ft := l.map fun (x : Nat) => ⟨(x : Int), 2, 1⟩
/-- A book, once the time has gone on. -/
def Bk.go (s : Bk) (u : Int) (l : List Nat) : Bk := { s with now := u, op := opJ s.op l, un := [] }
/-- Whose abort time came, in order. -/
structure LateQ (s : Bk) (u : Int) (l : List Nat) : Prop where
  nd : l.Nodup
  mem : ∀ x : Nat, x ∈ l ↔ ∃ k d, s.op k = some ((x : Int), d) ∧ d - s.cost ≤ u
  srt : ∀ (a b : Nat) x y, a < b → l[a]? = some x → l[b]? = some y → ltN s.op x y
theorem dead_of {s : Bk} (ok : s.ok) {x k : Nat} {d : Int} (h : s.op k = some ((x : Int), d)) : dN s.op x = d ∧ x % 65536 = x := by
  have hb := ok.bd k _ h
  dsimp only at hb
  have e : x % 65536 = x := by omega
  refine ⟨?_, e⟩
  unfold dN deadO
  rw [e, ok.U.slot h]
  show ((s.op k).getD (0, 0)).2 = d
  rw [h]; rfl
theorem offp_nodup {T : Int → Option Int} {u : Int} {o : List Int} (h : OffP T u o) : o.Nodup := h.sort.imp fun hab e => by subst e; unfold ltT at hab; simp at hab
theorem T_some {s : Bk} {i a : Int} (h : s.T i = some a) : ∃ k : Nat, i = (k : Int) ∧ k < 64 ∧ ∃ x, s.op k = some x ∧ a = x.2 - s.cost := by
  unfold Bk.T at h
  split at h
  · rename_i hi
    cases ho : s.op i.toNat with
    | none => rw [ho] at h; cases h
    | some x =>
      rw [ho] at h
      injection h with h
      exact ⟨i.toNat, by omega, by omega, x, ho, h.symm⟩
  · cases h
theorem T_of {s : Bk} (ok : s.ok) {k : Nat} {x : Int × Int} (h : s.op k = some x) : s.T (k : Int) = some (x.2 - s.cost) := by
  unfold Bk.T
  have := ok.U.lt k x h
  rw [if_pos (by omega), Int.toNat_natCast, h]; rfl
theorem LateP.q {s : Bk} (ok : s.ok) {u : Int} {o : List Int} {l : List Nat} (ho : OffP s.T u o) (h : LateP s.op o l) : LateQ s u l := by
  have nd0 : (o.map (idN s.op)).Nodup := by
    refine List.Pairwise.map _ ?_ (List.pairwise_iff_forall_sublist.2 fun {a b} hab => ?_) (R := fun a b => idN s.op a ≠ idN s.op b)
    · intro a b h; exact h
    · have hm : ∀ z, z ∈ [a, b] → z ∈ o := fun z hz => hab.subset hz
      have nd := offp_nodup ho
      have hne : a ≠ b := by
        have := nd.sublist hab
        simp at this; exact this
      obtain ⟨x1, h1, _⟩ := (ho.mem a).1 (hm a (by simp))
      obtain ⟨x2, h2, _⟩ := (ho.mem b).1 (hm b (by simp))
      obtain ⟨k1, rfl, _, y1, e1, _⟩ := T_some h1
      obtain ⟨k2, rfl, _, y2, e2, _⟩ := T_some h2
      intro e
      apply hne
      have b1 := ok.bd k1 y1 e1
      have b2 := ok.bd k2 y2 e2
      unfold idN wsO at e
      rw [Int.toNat_natCast, Int.toNat_natCast, e1, e2] at e
      dsimp only at e
      rw [ok.U.uq k1 k2 y1 y2 e1 e2 (by omega)]
  have nd : l.Nodup := h.1.nodup_iff.2 nd0
  have mem : ∀ x : Nat, x ∈ l ↔ ∃ k d, s.op k = some ((x : Int), d) ∧ d - s.cost ≤ u := fun x => by
    rw [h.1.mem_iff, List.mem_map]
    constructor
    · rintro ⟨t, ht, rfl⟩
      obtain ⟨a, ha, hau⟩ := (ho.mem t).1 ht
      obtain ⟨k, rfl, _, y, e1, rfl⟩ := T_some ha
      have b1 := ok.bd k y e1
      refine ⟨k, y.2, ?_, hau⟩
      unfold idN wsO
      rw [Int.toNat_natCast, e1]
      dsimp only
      rw [show ((y.1.toNat : Nat) : Int) = y.1 by omega]
    · rintro ⟨k, d, hk, hd⟩
      refine ⟨(k : Int), (ho.mem _).2 ⟨_, T_of ok hk, hd⟩, ?_⟩
      unfold idN wsO
      rw [Int.toNat_natCast, hk]
      simp
  refine ⟨nd, mem, fun a b x y hab hx hy => ?_⟩
  have hn := h.2 a b x y hab hx hy
  obtain ⟨k1, d1, e1, _⟩ := (mem x).1 (List.mem_of_getElem? hx)
  obtain ⟨k2, d2, e2, _⟩ := (mem y).1 (List.mem_of_getElem? hy)
  obtain ⟨q1, q2⟩ := dead_of ok e1
  obtain ⟨q3, q4⟩ := dead_of ok e2
  have hxy : x ≠ y := fun e => by
    subst e
    have ha : a < l.length := (List.getElem?_eq_some_iff.1 hx).1
    have hb : b < l.length := (List.getElem?_eq_some_iff.1 hy).1
    exact List.pairwise_iff_getElem.1 nd a b ha hb hab ((List.getElem?_eq_some_iff.1 hx).2.trans (List.getElem?_eq_some_iff.1 hy).2.symm)
  unfold ltN at hn ⊢
  omega
theorem LateQ.T {s : Bk} (ok : s.ok) {u : Int} {l : List Nat} (h : LateQ s u l) : Bk.T (s.go u l) = aft s.T u := by
  funext i
  unfold aft
  show (if 0 ≤ i ∧ i < 64 then (opJ s.op l i.toNat).map (fun x => x.2 - s.cost) else none) = _
  unfold Bk.T
  by_cases hi : 0 ≤ i ∧ i < 64
  · rw [if_pos hi, if_pos hi]
    cases ho : s.op i.toNat with
    | none => unfold opJ; rw [ho]; rfl
    | some x =>
      have hb := ok.bd _ x ho
      have hx : s.op i.toNat = some (((x.1.toNat : Nat) : Int), x.2) := by rw [ho]; congr 1; ext <;> simp; omega
      by_cases hu : u < x.2 - s.cost
      · rw [opJ_of ho fun hm => by
          obtain ⟨k, d, e1, e2⟩ := (h.mem _).1 hm
          have ek := ok.U.uq _ _ _ _ hx e1 rfl
          rw [← ek, hx] at e1
          injection e1 with e1
          injection e1 with _ e1
          omega]
        simp [hu]
      · unfold opJ
        rw [ho]
        dsimp only
        rw [if_pos ((h.mem _).2 ⟨_, _, hx, by omega⟩)]
        simp [hu]
  · rw [if_neg hi, if_neg hi]
theorem LateQ.ok {s : Bk} (ok : s.ok) {u : Int} (hu : 0 ≤ u) {l : List Nat} (h : LateQ s u l) : (s.go u l).ok := by
  refine ⟨ok.c0, ok.c1, hu, ok.U.opJ l, fun k x hx => ?_⟩
  obtain ⟨e1, e2⟩ := opJ_some (show opJ s.op l k = some x from hx)
  have hb := ok.bd k x e1
  refine ⟨hb.1, hb.2.1, ?_, hb.2.2.2⟩
  show u < x.2 - s.cost
  have hx2 : s.op k = some (((x.1.toNat : Nat) : Int), x.2) := by rw [e1]; congr 1; ext <;> simp; omega
  rcases Int.lt_or_le u (x.2 - s.cost) with h1 | h1
  · exact h1
  · exact absurd ((h.mem _).2 ⟨k, x.2, hx2, h1⟩) e2
/-- Who is open, once the time is u. -/
def opF (s : Bk) (u : Int) (k : Nat) : Option (Int × Int) := match s.op k with
  | some x => if x.2 - s.cost ≤ u then none else some x
  | none => none
theorem LateQ.opF {s : Bk} (ok : s.ok) {u : Int} {l : List Nat} (h : LateQ s u l) : opJ s.op l = opF s u := by
  funext k
  unfold opJ Proofs.YtdjhpdacglojaaaGreat.opF
  cases ho : s.op k with
  | none => rfl
  | some x =>
    have hb := ok.bd _ x ho
    have hx : s.op k = some (((x.1.toNat : Nat) : Int), x.2) := by rw [ho]; congr 1; ext <;> simp; omega
    dsimp only
    by_cases hu : x.2 - s.cost ≤ u
    · rw [if_pos hu, if_pos ((h.mem _).2 ⟨_, _, hx, hu⟩)]
    · rw [if_neg hu, if_neg fun hm => by
        obtain ⟨k2, d, e1, e2⟩ := (h.mem _).1 hm
        have ek := ok.U.uq _ _ _ _ hx e1 rfl
        rw [← ek, hx] at e1
        injection e1 with e1
        injection e1 with _ e1
        omega]
/-- A book, once the time has gone on. -/
def Bk.gon (s : Bk) (u : Int) : Bk := if goA s.now u = 0 then { s with now := u, op := Proofs.YtdjhpdacglojaaaGreat.opF s u, un := [] } else s
theorem LateQ.gon {s : Bk} (ok : s.ok) {u : Int} {l : List Nat} (h : LateQ s u l) (hg : goA s.now u = 0) : s.gon u = s.go u l := by
  unfold Bk.gon Bk.go
  rw [if_pos hg, h.opF ok]
end
section
set_option linter.unusedVariables false
set_option maxRecDepth 100000
set_option maxHeartbeats 4000000
section
variable {w0 w w' : World} {S0 : Nat → Prop} {L X : List Res} {b cw mb cap n c : Nat} {A T : Option Addr} {s : Bk} {u : Int}
theorem lGo_no (H : St w0 S0 w (BookL b cw mb A cap s)) (hu : 0 ≤ u) (hg : goA s.now u ≠ 0) : Calls Tryz.prog 78 #[.pointer (some ⟨b, 0, none⟩), .int .u64 u] w fun e w' => e = .returned (.tuple #[.slice none 0 0, .int .i64 (goA s.now u)]) ∧ St w0 S0 w' (BookL b cw mb A cap s) := by
  have c1 := H.arr_cell 0 rfl (k := 1) (by omega)
  unfold bkV at c1
  rw [if_neg (by omega), if_pos rfl] at c1
  have WG := Lib.hid (wGo_o H 1 rfl hu)
  rw [show goN s.now u = s.now by unfold goN; rw [if_neg hg], show goT s.now s.T u = s.T by unfold goT; rw [if_neg hg]] at WG
  obtain ⟨cd, hcd⟩ : ∃ cd, goA s.now u = cd := ⟨_, rfl⟩
  rw [hcd] at WG hg ⊢
  have z : (cd != 0) = true := by simp [hg]
  clear H hcd hg
  go_enter Tryz.func78, Tryz.ntmps78
  go_wp2_with fail
  refine WG.out.mono ?_
  rintro e w1 ⟨T', n, c, o, rfl, h1, h2, h3, s1⟩
  have S1 := Lib.hid (show St w0 S0 w1 (BookL b cw mb A cap s) from s1.drop 4 (by simp [BookL]))
  clear WG s1 h1
  go_wp2_with fail
  go_ret2
  exact ⟨rfl, S1.out⟩
theorem fLate_app (l : List Nat) (x : Nat) : fLate (l ++ [x]) = fLate l ++ [⟨(x : Int), 2, 1⟩] := by unfold fLate; simp
theorem lGo_yes (H : St w0 S0 w (BookL b cw mb A cap s)) (ok : s.ok) (hu : 0 ≤ u) (hun : s.un.length ≤ 90000) (hg : goA s.now u = 0) : Calls Tryz.prog 78 #[.pointer (some ⟨b, 0, none⟩), .int .u64 u] w fun e w' => ∃ l n B d, LateQ s u l ∧ (s.un ++ fLate l).length = n ∧ n ≤ 91000 ∧ e = .returned (.tuple #[.slice B n d, .int .i64 0]) ∧ St w0 S0 w' (BookL b cw mb none 0 (s.go u l) ++ [LisR 82 3 (.slice B n d) n (fvs (s.un ++ fLate l))]) := by
  have c1 := H.arr_cell 0 rfl (k := 1) (by omega)
  unfold bkV at c1
  rw [if_neg (by omega), if_pos rfl] at c1
  have WG := Lib.hid (wGo_o H 1 rfl hu)
  rw [hg] at WG
  rw [show goN s.now u = u by unfold goN; rw [if_pos hg], show goT s.now s.T u = aft s.T u by unfold goT; rw [if_pos hg]] at WG
  have HG := Lib.hid (show ∀ o, GoP s.now s.T u o → OffP s.T u o from fun o h => by unfold GoP at h; rw [if_pos hg] at h; exact h)
  have HOK := Lib.hid ok
  clear H hg ok
  go_enter Tryz.func78, Tryz.ntmps78
  go_wp2_with fail
  refine WG.out.mono ?_
  rintro e w1 ⟨T', n, c, o, rfl, h1, h2, h3, s1⟩
  have hoff := HG.out o h1
  have S1 := Lib.hid (show St w0 S0 w1 (BookG b cw mb A cap s u (aft s.T u) ++ [LisR 3 1 (.slice T' n c) n (iv o)]) from s1)
  have LC := Lib.hid (late_c S1.out HOK.out (i := 0) rfl h2 h3 (fun t ht => by
    obtain ⟨a, ha, _⟩ := (hoff.mem t).1 ht
    obtain ⟨k, rfl, hk6, x, hx, _⟩ := T_some ha
    exact ⟨by omega, by omega, by rw [Int.toNat_natCast, hx]; simp⟩))
  have HOFF := Lib.hid hoff
  clear WG s1 h1 HG S1 hoff c1
  go_wp2_with fail
  refine LC.out.mono ?_
  rintro e w2 ⟨B, d, q, l, rfl, hl, s2⟩
  have hlen : l.length = n := by rw [hl.1.length_eq, List.length_map, h2]
  have HQ := Lib.hid (hl.q HOK.out HOFF.out)
  have HLEN := Lib.hid hlen
  have s3 := St.comm (A := [LisR 3 1 (.slice B n d) n (nv l), BlkR q 105 #[.pointer (some ⟨b, 0, none⟩)]]) s2
  have S3 := Lib.hid (show St w0 S0 w2 (BookG b cw mb A cap { s with op := opJ s.op (l.take 0), un := s.un ++ fLate (l.take 0) } u (aft s.T u) ++ [LisR 3 1 (.slice T' n c) n (iv o), LisR 3 1 (.slice B n d) n (nv l), BlkR q 105 #[.pointer (some ⟨b, 0, none⟩)]]) by
    rw [List.take_zero, opJ_nil, show s.un ++ fLate [] = s.un from List.append_nil _]; exact s3)
  clear LC hl s2 s3 hlen h2
  go_wp2_with fail
  go_loopw [27] (fun y wr => ∃ (j : Nat) (A' : Option Addr) (cap' : Nat), j ≤ n ∧ y = .int .i64 (j : Int) ∧ St w0 S0 wr (BookG b cw mb A' cap' { s with op := opJ s.op (l.take j), un := s.un ++ fLate (l.take j) } u (aft s.T u) ++ [LisR 3 1 (.slice T' n c) n (iv o), LisR 3 1 (.slice B n d) n (nv l), BlkR q 105 #[.pointer (some ⟨b, 0, none⟩)]])) (fun y _ => n - (intOf y).toNat)
  case atStart => exact ⟨0, A, cap, by omega, rfl, S3.out⟩
  case round =>
    clear S3
    obtain ⟨j, A', cap', hj, rfl, sr⟩ := hrel
    by_cases hlt : j < n
    · have t1 : decide ((j : Int) < (n : Int)) = true := decide_eq_true (by omega)
      have t1' : decide (j < n) = true := decide_eq_true hlt
      obtain ⟨id, hid⟩ : ∃ id, l[j]? = some id := ⟨_, List.getElem?_eq_getElem (show j < l.length by rw [HLEN.out]; exact hlt)⟩
      obtain ⟨k, dd, hk, hdu⟩ := (HQ.out.mem id).1 (List.mem_of_getElem? hid)
      have hb := HOK.out.bd k _ hk
      dsimp only at hb
      have hc := (sr.lis 5 rfl).reads.2.resolve_left (by omega)
      obtain ⟨g, off, rfl, hc⟩ := hc
      have x0 := hc j _ (nv_get hid)
      unfold encN at x0
      rw [show id % 65536 = id by omega] at x0
      have hni : id ∉ l.take j := fun hm => by
        obtain ⟨i2, hi2⟩ := List.getElem?_of_mem hm
        have hi3 : i2 < j := by
          have := (List.getElem?_eq_some_iff.1 hi2).1
          rw [List.length_take] at this
          omega
        rw [List.getElem?_take_of_lt hi3] at hi2
        exact List.pairwise_iff_getElem.1 HQ.out.nd i2 j (List.getElem?_eq_some_iff.1 hi2).1 (List.getElem?_eq_some_iff.1 hid).1 hi3 ((List.getElem?_eq_some_iff.1 hi2).2.trans (List.getElem?_eq_some_iff.1 hid).2.symm)
      have hj2 : opJ s.op (l.take j) k = some ((id : Int), dd) := opJ_of hk (by show (id : Int).toNat ∉ _; rw [Int.toNat_natCast]; exact hni)
      have OM := lOut_mid sr (HOK.out.U.opJ _) (fun k x hx => by have := HOK.out.bd k x (opJ_some hx).1; exact ⟨this.1, this.2.1⟩) ⟨(id : Int), 2, 1⟩ (k := k) ((HOK.out.U.opJ _).slot hj2) (by
        show (s.un ++ fLate (l.take j)).length ≤ 100000
        rw [List.length_append]; unfold fLate; rw [List.length_map, List.length_take]; omega)
      dsimp only at OM
      rw [opJ_step HOK.out.U (fun k x hx => (HOK.out.bd k x hx).1) hk, List.append_assoc, ← fLate_app,
        show l.take j ++ [id] = l.take (j + 1) by rw [List.take_add_one, hid]; rfl,
        show updT (aft s.T u) (k : Int) none = aft s.T u by
          funext i
          by_cases e : i = (k : Int)
          · subst e
            rw [updT, if_pos rfl]
            unfold aft
            rw [T_of HOK.out hk]
            dsimp only
            rw [if_pos hdu]
          · rw [updT, if_neg e]] at OM
      have OM := Lib.hid OM
      clear hc sr hid hk hdu hb hni hj2
      go_wp2_with fail
      refine OM.out.mono ?_
      rintro e w5 ⟨rfl, A2, cap2, s5⟩
      have S5 := Lib.hid s5
      clear OM s5
      go_wp2_with fail
      go_roundw
      case rel => exact ⟨j + 1, A2, cap2, by omega, by go_num, S5.out⟩
      case measure => simp [intOf]; omega
    · obtain rfl : j = n := by omega
      have t1 : decide ((j : Int) < (j : Int)) = false := decide_eq_false (by omega)
      have t1' : decide (j < j) = false := decide_eq_false hlt
      rw [List.take_of_length_le (by rw [HLEN.out]; exact Nat.le_refl j)] at sr
      obtain ⟨m, hm⟩ : ∃ m, (s.un ++ fLate l).length = m := ⟨_, rfl⟩
      have hm9 : m ≤ 91000 := by rw [← hm, List.length_append]; unfold fLate; rw [List.length_map, HLEN.out]; omega
      have c1 := sr.arr_cell 0 rfl (k := 67) (by omega)
      have c2 := sr.arr_frozen 0 rfl 67
      unfold bkV at c1
      rw [if_neg (by omega), if_neg (by omega), if_neg (by omega), if_neg (by omega)] at c1
      dsimp only at c1
      rw [hm] at c1
      have s6 := sr.arr_set 0 rfl (k := 67) (by omega) (.slice none 0 0)
      have S6 := Lib.hid s6
      have HM := Lib.hid hm
      clear sr s6 hm
      go_wp2_with fail
      go_ret2
      refine ⟨l, m, A', cap', HQ.out, HM.out, hm9, rfl, ?_⟩
      have s7 := S6.out.arr_like (V' := bkV (s.go u l) cw mb none 0) 0 rfl (fun j hj => by
        show bkV (s.go u l) cw mb none 0 j = if j = 67 then .slice none 0 0 else bkV _ cw mb A' cap' j
        by_cases e : j = 67
        · subst e; rw [if_pos rfl]; rfl
        · rw [if_neg e]
          unfold bkV
          by_cases e0 : j = 0
          · rw [if_pos e0, if_pos e0]; rfl
          by_cases e1 : j = 1
          · rw [if_neg e0, if_neg e0, if_pos e1, if_pos e1]
          by_cases e2 : j = 2
          · rw [if_neg e0, if_neg e0, if_neg e1, if_neg e1, if_pos e2, if_pos e2]
          rw [if_neg e0, if_neg e0, if_neg e1, if_neg e1, if_neg e2, if_neg e2, if_pos (show j < 67 by omega), if_pos (show j < 67 by omega)]
          rfl)
      have s8 : St w0 S0 _ ([ArrR b 218 68 (bkV (s.go u l) cw mb none 0), WheelR cw u (aft s.T u), MapZR Tryz.prog 3 mb (cntO (opJ s.op l)) (mapO (opJ s.op l))] ++ [LisR 82 3 (.slice A' (s.un ++ fLate l).length cap') (s.un ++ fLate l).length (fvs (s.un ++ fLate l))]) := ((s7.drop 6 (by simp [BookG])).drop 5 (by simp [BookG])).drop 4 (by simp [BookG])
      have s9 := St.comm (A := [LisR 82 3 (.slice A' (s.un ++ fLate l).length cap') (s.un ++ fLate l).length (fvs (s.un ++ fLate l))]) (s8.comm.lis_nil 82 3)
      rw [HM.out] at s9
      rw [← HQ.out.T HOK.out] at s9
      exact s9
end
end
section
set_option linter.unusedVariables false
set_option maxRecDepth 100000
set_option maxHeartbeats 2000000
/-- What Go tells. -/
def OutP (s : Bk) (u : Int) (out : List Ft) : Prop := if goA s.now u = 0 then ∃ l, LateQ s u l ∧ out = s.un ++ fLate l else out = []
section
variable {w0 w w' : World} {S0 : Nat → Prop} {L X : List Res} {b : Nat} {s : Bk} {u : Int}
theorem bGo_o (H : St w0 S0 w L) (i : Nat) (hi : L[i]? = some (BookR b s)) (hu : 0 ≤ u) (hun : s.un.length ≤ 90000) : Calls Tryz.prog 78 #[.pointer (some ⟨b, 0, none⟩), .int .u64 u] w fun e w' => ∃ B n d out, e = .returned (.tuple #[.slice B n d, .int .i64 (goA s.now u)]) ∧ OutP s u out ∧ out.length = n ∧ n ≤ 91000 ∧
      St w0 S0 w' (L.set i (BookR b (s.gon u)) ++ [LisR 82 3 (.slice B n d) n (fvs out)]) := by
  refine (St.call_more (α := Option Addr × Nat × Nat × List Ft) (R := BookR b s) (R' := BookR b (s.gon u)) (N := fun x => [LisR 82 3 (.slice x.1 x.2.1 x.2.2.1) x.2.1 (fvs x.2.2.2)]) (Post := fun x e => e = .returned (.tuple #[.slice x.1 x.2.1 x.2.2.1, .int .i64 (goA s.now u)]) ∧ OutP s u x.2.2.2 ∧ x.2.2.2.length = x.2.1 ∧ x.2.1 ≤ 91000) ?_ H i hi).mono fun e w' ⟨⟨A, n, cap, o⟩, ⟨h1, h2, h3, h4⟩, s⟩ => ⟨A, n, cap, o, h1, h2, h3, h4, s⟩
  intro w S h
  obtain ⟨ok, cw, mb, A, cap, hs⟩ := h
  by_cases hg : goA s.now u = 0
  · refine (lGo_yes (St.start hs) ok hu hun hg).mono fun e w' ⟨l, n, B, d, hq, hn, hn9, he, s'⟩ => ⟨(B, n, d, s.un ++ fLate l), ⟨by rw [hg]; exact he, by unfold OutP; rw [if_pos hg]; exact ⟨l, hq, rfl⟩, hn, hn9⟩, ?_⟩
    rw [hq.gon ok hg]
    exact (s'.comm.fold (BookR.ok b (s.go u l)) fun S' h => ⟨hq.ok ok hu, cw, mb, none, 0, h⟩).comm
  · refine (lGo_no (St.start hs) hu hg).mono fun e w' ⟨he, s'⟩ => ⟨(none, 0, 0, []), ⟨he, by unfold OutP; rw [if_neg hg], rfl, by dsimp only; omega⟩, ?_⟩
    have e1 : s.gon u = s := by unfold Bk.gon; rw [if_neg hg]
    rw [e1]
    have s1 := s'.lis_nil 82 3
    exact (s1.comm.fold (BookR.ok b s) fun S' h => ⟨ok, cw, mb, A, cap, h⟩).comm
end
theorem LateQ.uniq {s : Bk} (ok : s.ok) {u : Int} {l l' : List Nat} (h : LateQ s u l) (h' : LateQ s u l') : l = l' := by
  have hp : l.Perm l' := (List.perm_ext_iff_of_nodup h.nd h'.nd).2 fun x => by rw [h.mem, h'.mem]
  have p : ∀ {l}, LateQ s u l → l.Pairwise (ltN s.op) := fun h => List.pairwise_iff_getElem.2 fun i j hi hj hij => h.srt i j _ _ hij (List.getElem?_eq_getElem hi) (List.getElem?_eq_getElem hj)
  exact hp.eq_of_pairwise (fun a b ha hb h1 h2 => by unfold ltN at h1 h2; omega) (p h) (p h')
theorem OutP.uniq {s : Bk} (ok : s.ok) {u : Int} {o o' : List Ft} (h : OutP s u o) (h' : OutP s u o') : o = o' := by
  unfold OutP at h h'
  by_cases hg : goA s.now u = 0
  · rw [if_pos hg] at h h'
    obtain ⟨l, q, rfl⟩ := h
    obtain ⟨l', q', rfl⟩ := h'
    rw [q.uniq ok q']
  · rw [if_neg hg] at h h'; rw [h, h']
end
section
set_option linter.unusedVariables false
set_option maxRecDepth 100000
set_option maxHeartbeats 4000000
def aw1 : Bk := (Bk.new 5).opn 7 20
def aw2 : Bk := aw1.opn 8 30
def aw3 : Bk := aw2.ans 8 3 false
def aw4 : Bk := aw3.ans 8 3 false
def aw5 : Bk := aw4.gon 15
theorem Bk.ok.ans {s : Bk} (ok : s.ok) (id st : Int) (bad : Bool) : (s.ans id st bad).ok := by
  unfold Bk.ans; split
  · exact ok
  · exact ok.out _
theorem aw_ok : aw4.ok := (((bk_new_ok (c := 5) rfl).opn 7 20).opn 8 30 |>.ans 8 3 false).ans 8 3 false
theorem aw_op : ∀ k, k < 64 → aw4.op k = if k = 0 then some (7, 20) else none := by
  have h : ((List.range 64).all fun k => decide (aw4.op k = if k = 0 then some (7, 20) else none)) = true := by kernel_rfl
  intro k hk
  rw [List.all_eq_true] at h
  exact of_decide_eq_true (h k (by simpa using hk))
theorem aw_out {o : List Ft} (h : OutP aw4 15 o) : o = [⟨8, 1, 3⟩, ⟨7, 2, 1⟩] := by
  refine h.uniq aw_ok ?_
  unfold OutP
  rw [if_pos (show goA aw4.now 15 = 0 by kernel_rfl)]
  refine ⟨[7], ⟨by simp, fun x => ?_, fun a b x y hab hx hy => ?_⟩, by kernel_rfl⟩
  · constructor
    · intro hx
      obtain rfl : x = 7 := by simpa using hx
      exact ⟨0, 20, by rw [aw_op 0 (by omega)]; rfl, by show (20 : Int) - 5 ≤ 15; omega⟩
    · rintro ⟨k, d, hk, _⟩
      rw [aw_op k (aw_ok.U.lt k _ hk)] at hk
      split at hk
      · injection hk with hk
        injection hk with hk _
        have : x = 7 := by omega
        simp [this]
      · cases hk
  · have := (List.getElem?_eq_some_iff.1 hy).1
    simp at this
    omega
end
section
set_option linter.unusedVariables false
set_option maxRecDepth 100000
set_option maxHeartbeats 2000000
theorem LateQ.pw {s : Bk} {u : Int} {l : List Nat} (h : LateQ s u l) : l.Pairwise (ltN s.op) :=
  List.pairwise_iff_getElem.2 fun i j hi hj hij => h.srt i j _ _ hij (List.getElem?_eq_getElem hi) (List.getElem?_eq_getElem hj)
theorem LateQ.of_pw {s : Bk} {u : Int} {l : List Nat} (nd : l.Nodup) (mem : ∀ x : Nat, x ∈ l ↔ ∃ k d, s.op k = some ((x : Int), d) ∧ d - s.cost ≤ u) (pw : l.Pairwise (ltN s.op)) : LateQ s u l :=
  ⟨nd, mem, fun a b x y hab hx hy => by
    obtain ⟨ha, rfl⟩ := List.getElem?_eq_some_iff.1 hx
    obtain ⟨hb, rfl⟩ := List.getElem?_eq_some_iff.1 hy
    exact List.pairwise_iff_getElem.1 pw a b ha hb hab⟩
theorem opF_some {s : Bk} {u : Int} {k : Nat} {x : Int × Int} : opF s u k = some x ↔ s.op k = some x ∧ u < x.2 - s.cost := by
  unfold opF
  cases ho : s.op k with
  | none => constructor
            · intro h; cases h
            · rintro ⟨h, _⟩; cases h
  | some y =>
    dsimp only
    by_cases h : y.2 - s.cost ≤ u
    · rw [if_pos h]
      constructor
      · intro h; cases h
      · rintro ⟨e, h2⟩; injection e with e; subst e; omega
    · rw [if_neg h]
      constructor
      · intro e; injection e with e; subst e; exact ⟨rfl, by omega⟩
      · rintro ⟨e, _⟩; exact e
theorem Bk.ok.gon {s : Bk} (ok : s.ok) {u : Int} (hu : 0 ≤ u) : (s.gon u).ok := by
  unfold Bk.gon
  split
  · refine ⟨ok.c0, ok.c1, hu, ⟨fun k x h => ok.U.lt k x (opF_some.1 h).1, fun j k x y h1 h2 e => ok.U.uq j k x y (opF_some.1 h1).1 (opF_some.1 h2).1 e⟩, fun k x h => ?_⟩
    obtain ⟨h1, h2⟩ := opF_some.1 (show opF s u k = some x from h)
    have := ok.bd k x h1
    exact ⟨this.1, this.2.1, h2, this.2.2.2⟩
  · exact ok
/-- Go after Go tells what one Go tells. -/
theorem LateQ.app {s : Bk} (ok : s.ok) {u1 u : Int} {l1 l2 : List Nat} (h0 : 0 ≤ u1) (hg : goA s.now u1 = 0) (hu : u1 ≤ u) (h1 : LateQ s u1 l1) (h2 : LateQ (s.gon u1) u l2) : LateQ s u (l1 ++ l2) := by
  have ok2 := ok.gon (u := u1) h0
  have e1 : (s.gon u1).op = Proofs.YtdjhpdacglojaaaGreat.opF s u1 := by unfold Bk.gon; rw [if_pos hg]
  have e2 : (s.gon u1).cost = s.cost := by unfold Bk.gon; rw [if_pos hg]
  have m2 : ∀ x : Nat, x ∈ l2 ↔ ∃ k d, s.op k = some ((x : Int), d) ∧ u1 < d - s.cost ∧ d - s.cost ≤ u := fun x => by
    rw [h2.mem, e1, e2]
    constructor
    · rintro ⟨k, d, hk, hd⟩
      obtain ⟨a, b⟩ := opF_some.1 hk
      exact ⟨k, d, a, b, hd⟩
    · rintro ⟨k, d, a, b, hd⟩
      exact ⟨k, d, opF_some.2 ⟨a, b⟩, hd⟩
  have dd : ∀ x ∈ l2, dN (s.gon u1).op x = dN s.op x := fun x hx => by
    obtain ⟨k, d, a, b, _⟩ := (m2 x).1 hx
    rw [(dead_of ok a).1, (dead_of ok2 (k := k) (d := d) (by rw [e1]; exact opF_some.2 ⟨a, b⟩)).1]
  refine LateQ.of_pw ?_ (fun x => ?_) ?_
  · rw [List.nodup_append]
    refine ⟨h1.nd, h2.nd, fun x hx y hy e => ?_⟩
    subst e
    obtain ⟨k, d, a, b⟩ := (h1.mem x).1 hx
    obtain ⟨k', d', a', b', _⟩ := (m2 x).1 hy
    obtain rfl := ok.U.uq k k' _ _ a a' rfl
    rw [a] at a'
    injection a' with a'
    injection a' with _ a'
    omega
  · rw [List.mem_append, h1.mem, m2]
    constructor
    · rintro (⟨k, d, a, b⟩ | ⟨k, d, a, _, b⟩)
      · exact ⟨k, d, a, by omega⟩
      · exact ⟨k, d, a, b⟩
    · rintro ⟨k, d, a, b⟩
      rcases Int.lt_or_le u1 (d - s.cost) with h | h
      · exact Or.inr ⟨k, d, a, h, b⟩
      · exact Or.inl ⟨k, d, a, h⟩
  · rw [List.pairwise_append]
    refine ⟨h1.pw, ?_, fun x hx y hy => ?_⟩
    · refine h2.pw.imp_of_mem fun {a b} ha hb h => ?_
      unfold ltN at h ⊢
      rw [dd a ha, dd b hb] at h
      exact h
    · obtain ⟨k, d, a, b⟩ := (h1.mem x).1 hx
      obtain ⟨k', d', a', b', _⟩ := (m2 y).1 hy
      refine Or.inl ?_
      rw [(dead_of ok a).1, (dead_of ok a').1]
      omega
/-- Who is open, once the first were opened. -/
def opN (D : Nat → Int) (i : Nat) (k : Nat) : Option (Int × Int) := if k < i then some ((k : Int), D k) else none
section
variable {D : Nat → Int} {i : Nat} {C : Int}
theorem opN_some {k : Nat} {x : Int × Int} (h : opN D i k = some x) : k < i ∧ x = ((k : Int), D k) := by
  unfold opN at h
  by_cases e : k < i
  · rw [if_pos e] at h; injection h with h; exact ⟨e, h.symm⟩
  · rw [if_neg e] at h; cases h
theorem opN_succ : opN D (i + 1) = updO (opN D i) i (some ((i : Int), D i)) := by
  funext k
  by_cases e : k = i
  · subst e; rw [updO_self]; exact if_pos (by omega)
  · rw [updO_ne _ _ e]; unfold opN
    by_cases h : k < i
    · rw [if_pos h, if_pos (by omega)]
    · rw [if_neg h, if_neg (by omega)]
theorem opN_0 : opN D 0 = fun _ => none := by funext k; exact if_neg (by omega)
theorem freeO_N (hi : i < 64) : freeO (opN D i) = i := by
  unfold freeO
  rw [find_first hi (by unfold opN; rw [if_neg (by omega)]; rfl) fun j hj => by unfold opN; rw [if_pos hj]; rfl]
  rfl
theorem cntO_N : ∀ {i : Nat}, i ≤ 64 → cntO (opN D i) = i
  | 0, _ => by rw [opN_0]; exact cf_none 64
  | i + 1, h => by rw [opN_succ, cntO_put (by omega) (by unfold opN; exact if_neg (by omega)), cntO_N (by omega)]
theorem slotO_N : slotO (opN D i) (i : Int) = none := by
  cases hs : slotO (opN D i) (i : Int) with
  | none => rfl
  | some j =>
    obtain ⟨_, d, h⟩ := slot_some hs
    obtain ⟨h1, h2⟩ := opN_some h
    injection h2 with h2 _
    omega
theorem uqN (hi : i ≤ 64) : UqO (opN D i) :=
  ⟨fun k x h => by have := (opN_some h).1; omega, fun j k x y h1 h2 e => by
    rw [(opN_some h1).2, (opN_some h2).2] at e
    have e : (j : Int) = (k : Int) := e
    omega⟩
theorem okN {N : Int} (c0 : 1 ≤ C) (c1 : C ≤ 1000) (n0 : 0 ≤ N) (hi : i ≤ 64) (h : ∀ k, k < i → N + C < D k ∧ D k < 4611686018427387904) : (⟨C, N, opN D i, []⟩ : Bk).ok :=
  ⟨c0, c1, n0, uqN hi, fun k x hx => by
    obtain ⟨h1, rfl⟩ := opN_some hx
    have := h k h1
    exact ⟨by show (0 : Int) ≤ (k : Int); omega, by show (k : Int) ≤ 65535; omega, by show N < D k - C; omega, this.2⟩⟩
theorem opnA_N {N : Int} (hi : i < 64) (h : N + C < D i) (h1 : D i < 4611686018427387904) : opnA ⟨C, N, opN D i, []⟩ (i : Int) (D i) = 0 := by
  unfold opnA
  rw [if_neg (by omega), if_neg (by omega), show slotO (⟨C, N, opN D i, []⟩ : Bk).op (i : Int) = none from slotO_N, if_neg (by decide), show cntO (⟨C, N, opN D i, []⟩ : Bk).op = i from cntO_N (by omega), if_neg (by omega), if_neg (by show ¬ (D i ≤ N + C); omega)]
theorem opn_N {N : Int} (hi : i < 64) (h : N + C < D i) (h1 : D i < 4611686018427387904) : (⟨C, N, opN D i, []⟩ : Bk).opn (i : Int) (D i) = ⟨C, N, opN D (i + 1), []⟩ := by
  unfold Bk.opn
  rw [if_pos (opnA_N hi h h1)]
  show (⟨C, N, updO (opN D i) (freeO (opN D i)) (some ((i : Int), D i)), []⟩ : Bk) = _
  rw [freeO_N hi, ← opN_succ]
/-- Once all times have come, all are late. -/
theorem late_len {s : Bk} {u : Int} {l : List Nat} (h : LateQ s u l) (hs : s.op = opN D i) (hu : ∀ k, k < i → D k - s.cost ≤ u) : l.length = i := by
  have hp : l.Perm (List.range i) := (List.perm_ext_iff_of_nodup h.nd List.nodup_range).2 fun x => by
    rw [h.mem, hs, List.mem_range]
    constructor
    · rintro ⟨k, d, hk, _⟩
      obtain ⟨h1, h2⟩ := opN_some hk
      injection h2 with h2 _
      omega
    · intro hx
      exact ⟨x, D x, if_pos hx, hu x hx⟩
  rw [hp.length_eq, List.length_range]
end
end
section
set_option linter.unusedVariables false
set_option maxRecDepth 100000
set_option maxHeartbeats 2000000
/-- A book whose requests of a list came out. -/
def stL (C : Int) (op : Nat → Option (Int × Int)) (l : List Nat) (un : List Ft) : Bk := ⟨C, 0, opJ op l, un⟩
section
variable {C : Int} {op : Nat → Option (Int × Int)} {l : List Nat} {un : List Ft} {i k : Nat} {d st : Int}
theorem out_L (U : UqO op) (pos : ∀ k x, op k = some x → 0 ≤ x.1) (h : op k = some ((i : Int), d)) (hi : i ∉ l) (f : Ft) (hf : f.id = (i : Int)) :
    slotO (stL C op l un).op f.id = some k ∧ (stL C op l un).out f = stL C op (l ++ [i]) (un ++ [f]) := by
  have hj : opJ op l k = some ((i : Int), d) := opJ_of h (by show (i : Int).toNat ∉ l; rw [Int.toNat_natCast]; exact hi)
  have hs : slotO (stL C op l un).op f.id = some k := by rw [hf]; exact (U.opJ l).slot hj
  refine ⟨hs, ?_⟩
  rw [Bk.out_some hs]
  show (⟨C, 0, updO (opJ op l) k none, un ++ [f]⟩ : Bk) = _
  rw [opJ_step U pos h]; rfl
theorem ans_L (U : UqO op) (pos : ∀ k x, op k = some x → 0 ≤ x.1) (h : op k = some ((i : Int), d)) (hi : i ∉ l) (h0 : 0 ≤ st) (h1 : st ≤ 255) (bad : Bool) :
    ansA (stL C op l un) (i : Int) st = 0 ∧ (stL C op l un).ans (i : Int) st bad = stL C op (l ++ [i]) (un ++ [if bad then ⟨(i : Int), 2, 2⟩ else ⟨(i : Int), 1, st⟩]) := by
  have hc : ¬ (st < 0 ∨ 255 < st) := by omega
  have ho := out_L (C := C) (un := un) U pos h hi (if bad then (⟨(i : Int), 2, 2⟩ : Ft) else ⟨(i : Int), 1, st⟩) (by cases bad <;> rfl)
  constructor
  · unfold ansA outA
    rw [if_neg hc, if_pos]
    have := ho.1
    rw [show (if bad = true then (⟨(i : Int), 2, 2⟩ : Ft) else ⟨(i : Int), 1, st⟩).id = (i : Int) by cases bad <;> rfl] at this
    rw [this]; rfl
  · unfold Bk.ans
    rw [if_neg hc]
    exact ho.2
/-- A request that came out already isn't open. -/
theorem ans_L6 (hi : ∀ k d, opJ op l k ≠ some ((i : Int), d)) (h0 : 0 ≤ st) (h1 : st ≤ 255) (bad : Bool) :
    ansA (stL C op l un) (i : Int) st = 6 ∧ (stL C op l un).ans (i : Int) st bad = stL C op l un := by
  have hc : ¬ (st < 0 ∨ 255 < st) := by omega
  have hs : slotO (stL C op l un).op (i : Int) = none := by
    cases hs : slotO (stL C op l un).op (i : Int) with
    | none => rfl
    | some j => obtain ⟨_, d, h⟩ := slot_some hs; exact absurd h (hi j d)
  constructor
  · unfold ansA outA
    rw [if_neg hc, hs]; rfl
  · unfold Bk.ans
    rw [if_neg hc]
    refine Bk.out_none ?_
    rw [show (if bad = true then (⟨(i : Int), 2, 2⟩ : Ft) else ⟨(i : Int), 1, st⟩).id = (i : Int) by cases bad <;> rfl]
    exact hs
end
end
section
set_option linter.unusedVariables false
set_option maxRecDepth 100000
set_option maxHeartbeats 2000000
section
variable {s : Bk} {u id dead : Int} {l : List Nat} {f : Ft}
theorem cnt_opn (h : opnA s id dead = 0) : cntO (s.opn id dead).op = cntO s.op + 1 ∧ (s.opn id dead).un = s.un ∧ (s.opn id dead).now = s.now ∧ (s.opn id dead).cost = s.cost := by
  obtain ⟨_, _, _, _, hn, _⟩ := opnA_0 h
  obtain ⟨f1, f2, _⟩ := free_get hn
  unfold Bk.opn
  rw [if_pos h]
  exact ⟨cntO_put f1 f2 _, rfl, rfl, rfl⟩
theorem opn_at (h : opnA s id dead = 0) {k : Nat} {x : Int × Int} (hx : (s.opn id dead).op k = some x) : s.op k = some x ∨ x = (id, dead) := by
  unfold Bk.opn at hx
  rw [if_pos h] at hx
  have hx : updO s.op (freeO s.op) (some (id, dead)) k = some x := hx
  by_cases e : k = freeO s.op
  · subst e; rw [updO_self] at hx; injection hx with hx; exact Or.inr hx.symm
  · rw [updO_ne _ _ e] at hx; exact Or.inl hx
theorem cnt_out {k : Nat} (h : slotO s.op f.id = some k) : cntO (s.out f).op + 1 = cntO s.op ∧ (s.out f).un = s.un ++ [f] ∧ (s.out f).now = s.now ∧ (s.out f).cost = s.cost := by
  rw [Bk.out_some h]
  obtain ⟨hk, d, hd⟩ := slot_some h
  exact ⟨cntO_del hk hd, rfl, rfl, rfl⟩
theorem out_at {k : Nat} {x : Int × Int} (hx : (s.out f).op k = some x) : s.op k = some x := by
  cases h : slotO s.op f.id with
  | none => rw [Bk.out_none h] at hx; exact hx
  | some j =>
    rw [Bk.out_some h] at hx
    have hx : updO s.op j none k = some x := hx
    by_cases e : k = j
    · subst e; rw [updO_self] at hx; cases hx
    · rw [updO_ne _ _ e] at hx; exact hx
/-- All are late: as many come out as are open. -/
theorem late_all (ok : s.ok) (h : LateQ s u l) (hu : ∀ k x, s.op k = some x → x.2 - s.cost ≤ u) : l.length = cntO s.op := by
  have hp : l.Perm (((List.range 64).filter fun k => (s.op k).isSome).map fun k => ((s.op k).getD (0, 0)).1.toNat) := by
    refine (List.perm_ext_iff_of_nodup h.nd ?_).2 fun x => ?_
    · refine List.Pairwise.map _ (R := fun a b => a ∈ ((List.range 64).filter fun k => (s.op k).isSome) ∧ b ∈ ((List.range 64).filter fun k => (s.op k).isSome) ∧ a ≠ b) ?_ ?_
      · rintro a b ⟨ha, hb, hab⟩ e
        rw [List.mem_filter] at ha hb
        obtain ⟨xa, hxa⟩ := Option.isSome_iff_exists.1 ha.2
        obtain ⟨xb, hxb⟩ := Option.isSome_iff_exists.1 hb.2
        rw [hxa, hxb] at e
        have h1 := ok.bd a xa hxa
        have h2 := ok.bd b xb hxb
        exact hab (ok.U.uq a b xa xb hxa hxb (by have e : xa.1.toNat = xb.1.toNat := e; omega))
      · exact (List.nodup_range.filter _).imp_of_mem fun ha hb hab => ⟨ha, hb, hab⟩
    · rw [h.mem, List.mem_map]
      constructor
      · rintro ⟨k, d, hk, _⟩
        refine ⟨k, List.mem_filter.2 ⟨by simpa using ok.U.lt k _ hk, by rw [hk]; rfl⟩, ?_⟩
        rw [hk]; simp
      · rintro ⟨k, hk, e⟩
        rw [List.mem_filter] at hk
        obtain ⟨y, hy⟩ := Option.isSome_iff_exists.1 hk.2
        rw [hy] at e
        have hb := ok.bd k y hy
        have e : y.1.toNat = x := e
        refine ⟨k, y.2, ?_, hu k y hy⟩
        rw [hy, ← e]
        congr 1
        ext
        · simp; omega
        · rfl
  rw [hp.length_eq, List.length_map]; rfl
/-- None is late: none comes out. -/
theorem late_none (h : LateQ s u l) (hu : ∀ k x, s.op k = some x → u < x.2 - s.cost) : l = [] := by
  cases l with
  | nil => rfl
  | cons x l =>
    obtain ⟨k, d, hk, hd⟩ := (h.mem x).1 (by simp)
    have := hu k _ hk
    dsimp only at this
    omega
theorem gon_all (hg : goA s.now u = 0) (hu : ∀ k x, s.op k = some x → x.2 - s.cost ≤ u) : cntO (s.gon u).op = 0 := by
  have e : (s.gon u).op = fun _ => none := by
    unfold Bk.gon; rw [if_pos hg]
    funext k
    show opF s u k = none
    cases h : opF s u k with
    | none => rfl
    | some x =>
      obtain ⟨a, b⟩ := opF_some.1 h
      have := hu k x a
      omega
  rw [e]; exact cf_none 64
theorem gon_same (hg : goA s.now u = 0) (hu : ∀ k x, s.op k = some x → u < x.2 - s.cost) : (s.gon u).op = s.op := by
  unfold Bk.gon; rw [if_pos hg]
  funext k
  show opF s u k = s.op k
  refine Option.ext fun x => ?_
  rw [opF_some]
  exact ⟨fun h => h.1, fun h => ⟨h, hu k x h⟩⟩
end
end
end Go.Proofs.YtdjhpdacglojaaaGreat
