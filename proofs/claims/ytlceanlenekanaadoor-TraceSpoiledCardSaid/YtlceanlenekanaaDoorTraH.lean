/- Layer 25: the document's rising and each. -/
import Derived.Test.YtlceanlenekanaaDoorTraG
import Derived.BigQuiet
namespace Go.Proofs.YtlceanlenekanaaDoor
open Go.RowKit
set_option linter.unusedVariables false
set_option maxRecDepth 100000
set_option maxHeartbeats 1000000
theorem rising_o (A : Option Addr) (n c : Nat) (xs : List Int) (w : World) (hn : xs.length = n) (hn2 : n ≤ 1000000) (hA : RdI w A xs) :
    Calls Tryd.prog 23 #[.slice A n c] w fun e w' => e = .returned (.bool (rsI (-1) xs)) ∧ Below w.heap.size w w' := by
  have HA := Lib.hid hA
  clear hA
  go_enter Tryd.func23, Tryd.ntmps23
  go_wp2
  go_loopw [3] (fun x3 wr => ∃ (i : Nat) (a : Int), i ≤ n ∧ x3 = .int .i64 (i : Int) ∧ -1 ≤ a ∧ (i = 0 → a = -1) ∧ (0 < i → xs[i - 1]? = some a) ∧ rsI (-1) xs = rsI a (xs.drop i) ∧ Below w.heap.size w wr) (fun x3 _ => n - (intOf x3).toNat)
  case atStart => exact ⟨0, -1, Nat.zero_le _, rfl, by omega, fun _ => rfl, fun h => absurd h (by omega), rfl, Below.refl _ _⟩
  case round =>
  obtain ⟨i, a, hi, rfl, ha, ha0, ha1, hr, hbw⟩ := hrel
  have HR := Lib.hid hr
  have HB := Lib.hid hbw
  clear hr
  by_cases hlt : i < n
  · have z1 : decide ((i : Int) < (n : Int)) = true := decide_eq_true (by omega)
    obtain ⟨x, hx⟩ : ∃ x, xs[i]? = some x := ⟨xs[i]'(by omega), List.getElem?_eq_getElem _⟩
    obtain ⟨g, o, rfl, l1, c1⟩ := (HA.out.on2 hbw) i x hx
    have hd : xs.drop i = x :: xs.drop (i + 1) := by
      obtain ⟨h1, h2⟩ := List.getElem?_eq_some_iff.1 hx
      rw [← h2]; exact List.drop_eq_getElem_cons h1
    have HD := Lib.hid hd
    have HX := Lib.hid hx
    clear hd hx hbw
    by_cases a1 : x < 0
    · have y1 : decide (x < 0) = true := decide_eq_true a1
      have HV := Lib.hid (show rsI (-1) xs = false by rw [HR.out, HD.out, rsI, decide_eq_false (show ¬ a < x by omega)]; rfl)
      clear ha0 ha1
      go_wp2_with fail
      go_quiet (fail)
      go_wp2_with fail
      go_ret
      exact ⟨by rw [HV.out]; rfl, by first | exact HB.out | exact HB.out.drew | exact below_drewN HB.out _⟩
    have y1 : decide (x < 0) = false := decide_eq_false a1
    by_cases a2 : (31 : Int) < x
    · have y2 : decide ((31 : Int) < x) = true := decide_eq_true a2
      have HV := Lib.hid (show rsI (-1) xs = false by rw [HR.out, HD.out, rsI, decide_eq_false (show ¬ x < 32 by omega), Bool.and_false]; rfl)
      clear ha0 ha1
      go_wp2_with fail
      go_quiet (fail)
      go_wp2_with fail
      go_ret
      exact ⟨by rw [HV.out]; rfl, by first | exact HB.out | exact HB.out.drew | exact below_drewN HB.out _⟩
    have y2 : decide ((31 : Int) < x) = false := decide_eq_false a2
    by_cases h0 : i = 0
    · subst h0
      obtain rfl := ha0 rfl
      have HV := Lib.hid (show rsI (-1) xs = rsI x (xs.drop (0 + 1)) by rw [HR.out, HD.out, rsI, decide_eq_true (show (-1 : Int) < x by omega), decide_eq_true (show x < 32 by omega)]; rfl)
      rw [Nat.add_zero] at c1
      have z10 : decide ((0 : Int) < (n : Int)) = true := decide_eq_true (by omega)
      have z11 : decide (0 < n) = true := decide_eq_true (by omega)
      clear ha0 ha1 z1
      go_wp2_with fail
      go_quiet (fail)
      go_wp2_with fail
      go_roundw
      case rel => exact ⟨1, x, by omega, by go_num, by omega, fun h => by omega, fun _ => HX.out, HV.out, by first | exact HB.out | exact HB.out.drew | exact below_drewN HB.out _⟩
      case measure => simp [intOf]; omega
    · have y3 : decide ((0 : Int) < (i : Int)) = true := decide_eq_true (by omega)
      have y33 : decide (0 < i) = true := decide_eq_true (by omega)
      have hp := ha1 (by omega)
      obtain ⟨g', o', e, _, c0⟩ := (HA.out.on2 HB.out) (i - 1) a hp
      injection e with e
      injection e with e1 e2
      subst e1; subst e2
      obtain ⟨j, rfl⟩ : ∃ j, i = j + 1 := ⟨i - 1, by omega⟩
      rw [show j + 1 - 1 = j by omega] at c0
      clear ha0 ha1 hp
      by_cases a3 : x ≤ a
      · have y4 : decide (x ≤ a) = true := decide_eq_true a3
        have HV := Lib.hid (show rsI (-1) xs = false by rw [HR.out, HD.out, rsI, decide_eq_false (show ¬ a < x by omega)]; rfl)
        go_wp2_with fail
        go_quiet (fail)
        go_wp2_with fail
        go_ret
        exact ⟨by rw [HV.out]; rfl, by first | exact HB.out | exact HB.out.drew | exact below_drewN HB.out _⟩
      · have y4 : decide (x ≤ a) = false := decide_eq_false a3
        have HV := Lib.hid (show rsI (-1) xs = rsI x (xs.drop (j + 1 + 1)) by rw [HR.out, HD.out, rsI, decide_eq_true (show a < x by omega), decide_eq_true (show x < 32 by omega)]; rfl)
        go_wp2_with fail
        go_quiet (fail)
        go_wp2_with fail
        go_roundw
        case rel => exact ⟨j + 1 + 1, x, by omega, by go_num, by omega, fun h => by omega, fun _ => HX.out, HV.out, by first | exact HB.out | exact HB.out.drew | exact below_drewN HB.out _⟩
        case measure => simp [intOf]; omega
  obtain rfl : i = n := by omega
  have z1 : decide ((i : Int) < (i : Int)) = false := decide_eq_false (by omega)
  have HV := Lib.hid (show rsI (-1) xs = true by rw [HR.out, List.drop_of_length_le (by omega)]; rfl)
  clear ha0 ha1
  go_wp2
  go_ret
  exact ⟨by rw [HV.out]; rfl, HB.out⟩
theorem each_add (m : UInt8) (t u : List UInt8) : Value.string ((⟨t.toArray⟩ : ByteArray) ++ (⟨#[m]⟩ : ByteArray) ++ (⟨u.toArray⟩ : ByteArray)) = stV (t ++ m :: u) := by
  unfold stV
  congr 1
  apply WideShapes.bytes_inj
  rw [ByteArray.data_append, Array.toList_append, ByteArray.data_append, Array.toList_append]
  simp
theorem eachB_snoc (m : UInt8) (xs : List Int) (i : Nat) (x : Int) (h : xs[i]? = some x) : eachB m (xs.take (i + 1)) = eachB m (xs.take i) ++ m :: digs x.toNat := by
  unfold eachB
  rw [take_snoc h, List.flatMap_append]
  simp [mkB]
theorem eachB_len (m : UInt8) : ∀ xs : List Int, (∀ x ∈ xs, 0 ≤ x ∧ x < 32) → (eachB m xs).length ≤ 3 * xs.length
  | [], _ => Nat.le_refl _
  | x :: xs, h => by
    have h1 := eachB_len m xs fun y hy => h y (List.mem_cons_of_mem _ hy)
    have h2 := digs_max 1 x.toNat (by have := h x List.mem_cons_self; omega)
    unfold eachB at h1 ⊢
    rw [List.flatMap_cons, List.length_append, List.length_cons]
    show (digs x.toNat).length + 1 + (List.flatMap (mkB m) xs).length ≤ _
    omega
theorem each_o (m : UInt8) (A : Option Addr) (n c : Nat) (xs : List Int) (w : World) (hn : xs.length = n) (hn2 : n ≤ 1000000) (hx : ∀ x ∈ xs, 0 ≤ x ∧ x < 32) (hA : RdI w A xs) :
    Calls Tryd.prog 19 #[.string ⟨#[m]⟩, .slice A n c] w fun e w' => e = .returned (stV (eachB m xs)) ∧ Below w.heap.size w w' := by
  have HA := Lib.hid hA
  have HX := Lib.hid hx
  clear hA hx
  go_enter Tryd.func19, Tryd.ntmps19
  go_wp2
  go_loopw [5, 6] (fun x5 x6 wr => ∃ i : Nat, i ≤ n ∧ x5 = stV (eachB m (xs.take i)) ∧ x6 = .int .i64 (i : Int) ∧ Below w.heap.size w wr) (fun _ x6 _ => n - (intOf x6).toNat)
  case atStart => exact ⟨0, Nat.zero_le _, rfl, rfl, Below.refl _ _⟩
  case round =>
  obtain ⟨i, hi, rfl, rfl, hbw⟩ := hrel
  have HB := Lib.hid hbw
  by_cases hlt : i < n
  · have z1 : decide ((i : Int) < (n : Int)) = true := decide_eq_true (by omega)
    obtain ⟨x, hxi⟩ : ∃ x, xs[i]? = some x := ⟨xs[i]'(by omega), List.getElem?_eq_getElem _⟩
    obtain ⟨g, o, rfl, l1, c1⟩ := (HA.out.on2 hbw) i x hxi
    obtain ⟨b1, b2⟩ := HX.out x (List.mem_of_getElem? hxi)
    have HM := Lib.hid (eachB_snoc m xs i x hxi)
    have tl : (eachB m (xs.take i)).length ≤ 3000000 := by
      have := eachB_len m (xs.take i) fun y hy => HX.out y (List.mem_of_mem_take hy)
      rw [List.length_take] at this
      omega
    obtain ⟨k, rfl⟩ : ∃ k : Nat, x = (k : Int) := ⟨x.toNat, by omega⟩
    rw [show ((k : Int)).toNat = k by omega] at HM
    obtain ⟨t, ht⟩ : ∃ t, eachB m (xs.take i) = t := ⟨_, rfl⟩
    rw [ht] at HM tl ⊢
    have dl : (digs k).length ≤ 20 := digs_max 19 k (by omega)
    have KD := Lib.hid (rdigits_o k wr (by omega))
    have HV := Lib.hid (each_add m t (digs k))
    clear hbw hxi ht
    unfold stV
    go_wp2_with (go_at_call 18; refine KD.out.mono ?_; unfold stV; rintro e w5 ⟨rfl, hb5⟩)
    go_roundw
    case rel => exact ⟨i + 1, by omega, by rw [HM.out]; exact HV.out, by go_num, below_then HB.out hb5⟩
    case measure => simp [intOf]; omega
  obtain rfl : i = n := by omega
  have z1 : decide ((i : Int) < (i : Int)) = false := decide_eq_false (by omega)
  have e1 : xs.take i = xs := List.take_of_length_le (by omega)
  rw [e1]
  unfold stV
  go_wp2
  go_ret
  exact ⟨rfl, hbw⟩
end Go.Proofs.YtlceanlenekanaaDoor
