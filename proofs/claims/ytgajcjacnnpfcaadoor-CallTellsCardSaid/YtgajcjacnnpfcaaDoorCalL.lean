/- Layer 21: is a row of words a command? -/
import Derived.Test.YtgajcjacnnpfcaaDoorCalK
namespace Go.Proofs.YtgajcjacnnpfcaaDoor
open Go.RowKit
set_option linter.unusedVariables false
set_option maxRecDepth 100000
set_option maxHeartbeats 4000000
@[go_sem] theorem as_int (v : Value) (xT : TypeId) (w : World) : (Instr.typeAssert (.iface 3 v) xT 3 true).run Tryd.prog w = .ok (.tuple #[v, .bool true]) w := by kernel_rfl
@[go_sem] theorem as_int_no (v : Value) (xT : TypeId) (w : World) : (Instr.typeAssert (.iface 9 v) xT 3 true).run Tryd.prog w = .ok (.tuple #[.int .i64 0, .bool false]) w := by kernel_rfl
@[go_sem] theorem as_str (v : Value) (xT : TypeId) (w : World) : (Instr.typeAssert (.iface 9 v) xT 9 true).run Tryd.prog w = .ok (.tuple #[v, .bool true]) w := by kernel_rfl
@[go_sem] theorem as_str_no (v : Value) (xT : TypeId) (w : World) : (Instr.typeAssert (.iface 3 v) xT 9 true).run Tryd.prog w = .ok (.tuple #[.string ⟨#[]⟩, .bool false]) w := by kernel_rfl
@[go_sem] theorem as_str_must (v : Value) (xT : TypeId) (w : World) : (Instr.typeAssert (.iface 9 v) xT 9 false).run Tryd.prog w = .ok v w := by kernel_rfl
@[go_sem] theorem as_int_must (v : Value) (xT : TypeId) (w : World) : (Instr.typeAssert (.iface 3 v) xT 3 false).run Tryd.prog w = .ok v w := by kernel_rfl
/-- The cells of a row. -/
def RdC (w : World) (A : Option Addr) (cs : List Value) : Prop := ∀ i u, cs[i]? = some u → ∃ g off, A = some ⟨g, off, none⟩ ∧ g < w.heap.size ∧ w.cell? ⟨g, off + i, none⟩ = some u
theorem anyVs_get {us : List (List UInt8)} {i : Nat} {u : List UInt8} (h : us[i]? = some u) : (anyVs us)[i]? = some (anyB u) := by unfold anyVs; rw [List.getElem?_map, h]; rfl
theorem parseB_bad {n : List UInt8} {r : List (List UInt8)} (h : ¬ (r.all mayN = true ∧ nm n = some r.length)) : (parseB (n :: r)).isSome = false := by rw [parseB_cons, if_neg h]; rfl
theorem parseB_good {n : List UInt8} {r : List (List UInt8)} (h : r.all mayN = true ∧ nm n = some r.length) : (parseB (n :: r)).isSome = true := by rw [parseB_cons, if_pos h]; rfl
theorem allN_none {r : List (List UInt8)} {i : Nat} {x : List UInt8} (h : r[i]? = some x) (hx : mayN x = false) : ¬ r.all mayN = true := fun ha => by
  have := List.all_eq_true.1 ha x (List.mem_of_getElem? h)
  rw [hx] at this
  cases this
theorem allN_more {r : List (List UInt8)} {i : Nat} {x : List UInt8} (h : r[i]? = some x) (hx : mayN x = true) (ha : (r.take i).all mayN = true) : (r.take (i + 1)).all mayN = true := by
  rw [List.take_add_one, h, List.all_append, ha]
  simp [hx]
theorem isCommand_o (A : Option Addr) (n c : Nat) (us : List (List UInt8)) (w : World) (hn : us.length = n) (hnc : n ≤ c) (hcm : c ≤ maxLen) (hn2 : n ≤ 100000) (hA : RdC w A (anyVs us)) :
    Calls Tryd.prog 25 #[.slice A n c] w fun e w' => e = .returned (.bool (parseB us).isSome) ∧ Below w.heap.size w w' := by
  unfold maxLen at hcm
  have KN := Lib.hid (fun s => nums_o s w)
  cases us with
  | nil =>
    obtain rfl : n = 0 := hn.symm
    go_enter Tryd.func25, Tryd.ntmps25
    go_wp2
    go_ret
    exact ⟨rfl, Below.refl _ _⟩
  | cons u0 r =>
    obtain ⟨m, rfl⟩ : ∃ m, n = m + 1 := ⟨r.length, by rw [← hn]; rfl⟩
    have hr : r.length = m := by rw [List.length_cons] at hn; omega
    obtain ⟨g, o, rfl, hg, c0⟩ := hA 0 (anyB u0) rfl
    rw [Nat.add_zero] at c0
    have hR : ∀ i u, r[i]? = some u → w.cell? ⟨g, o + 1 + i, none⟩ = some (anyB u) := fun i u h => by
      obtain ⟨g', o', e, _, h2⟩ := hA (i + 1) (anyB u) (anyVs_get (us := u0 :: r) (by rw [List.getElem?_cons_succ]; exact h))
      injection e with e; injection e with e1 e2; subst e1; subst e2
      rw [show o + 1 + i = o + (i + 1) by omega]; exact h2
    have y0 : (((m + 1 : Nat) : Int) == 0) = false := beq_eq_false_iff_ne.2 (by omega)
    have y00 : ((m : Int) + 1 == 0) = false := beq_eq_false_iff_ne.2 (by omega)
    cases hm : mayN u0 with
    | true =>
      rw [anyB_yes hm] at c0
      have HN := Lib.hid (parseB_bad (n := u0) (r := r) (fun h => by rw [nm_none hm] at h; cases h.2))
      have e1 : numsV (⟨#[]⟩ : ByteArray).data.toList = .tuple #[.int .i64 0, .bool false] := by rfl
      replace KN := Lib.hid (KN.out ⟨#[]⟩)
      rw [e1] at KN
      clear e1 hm hA hR
      go_enter Tryd.func25, Tryd.ntmps25
      go_wp2_with (go_at_call 13; refine KN.out.mono ?_; rintro e w2 ⟨rfl, rfl⟩)
      go_ret
      exact ⟨by rw [HN.out]; rfl, Below.refl _ _⟩
    | false =>
      rw [anyB_no hm] at c0
      unfold stV at c0
      replace KN := Lib.hid (KN.out ⟨u0.toArray⟩)
      have e1 : (⟨u0.toArray⟩ : ByteArray).data.toList = u0 := rfl
      rw [e1] at KN
      unfold numsV at KN
      clear e1 hm hA
      obtain ⟨N, hN⟩ : ∃ N, nm u0 = N := ⟨_, rfl⟩
      rw [hN] at KN
      cases N with
      | none =>
        have HN := Lib.hid (parseB_bad (n := u0) (r := r) (fun h => by rw [hN] at h; cases h.2))
        clear hN hR
        go_enter Tryd.func25, Tryd.ntmps25
        go_wp2_with (go_at_call 13; refine KN.out.mono ?_; rintro e w2 ⟨rfl, rfl⟩)
        go_ret
        exact ⟨by rw [HN.out]; rfl, Below.refl _ _⟩
      | some k =>
        by_cases hk : (m : Int) = (k : Int)
        · obtain rfl : m = k := by omega
          have y1 : ((m : Int) != (m : Int)) = false := by simp
          have HNM := Lib.hid hN
          clear hN
          obtain ⟨A', hA', hRd⟩ : ∃ A', (if c = 1 then some ⟨g, o, none⟩ else some (⟨g, o + 1, none⟩ : Addr)) = A' ∧ (m = 0 ∨ A' = some ⟨g, o + 1, none⟩) := by
            by_cases h1 : c = 1
            · exact ⟨_, if_pos h1, Or.inl (by omega)⟩
            · exact ⟨_, if_neg h1, Or.inr rfl⟩
          go_enter Tryd.func25, Tryd.ntmps25
          go_wp2_with (go_at_call 13; refine KN.out.mono ?_; rintro e w2 ⟨rfl, rfl⟩)
          have HR := Lib.hid hR
          clear hR
          have HG := Lib.hid (fun h => parseB_good (n := u0) (r := r) ⟨h, by rw [HNM.out, hr]⟩)
          have HB := Lib.hid (fun h => parseB_bad (n := u0) (r := r) h)
          go_loopw [8, 9, 10, 38] (fun _ _ _ x38 wr => ∃ i : Nat, i ≤ m ∧ x38 = .int .i64 (i : Int) ∧ (r.take i).all mayN = true ∧ wr = w) (fun _ _ _ x38 _ => m - (intOf x38).toNat)
          case atStart => exact ⟨0, Nat.zero_le _, rfl, rfl, rfl⟩
          case round =>
          obtain ⟨i, hi, rfl, had, rfl⟩ := hrel
          have HD := Lib.hid had
          clear had
          by_cases hlt : i < m
          · have z1 : decide ((i : Int) < (m : Int)) = true := decide_eq_true (by omega)
            obtain rfl : A' = some ⟨g, o + 1, none⟩ := hRd.resolve_left (by omega)
            obtain ⟨x, hx⟩ : ∃ x, r[i]? = some x := ⟨r[i]'(by omega), List.getElem?_eq_getElem _⟩
            have c1 := HR.out i x hx
            cases hmx : mayN x with
            | true =>
              rw [anyB_yes hmx] at c1
              have H2 := Lib.hid (allN_more hx hmx HD.out)
              clear hx hmx
              go_wp2
              go_roundw
              case rel => exact ⟨i + 1, by omega, by go_num, H2.out, by first | trivial | rfl⟩
              case measure => simp [intOf]; omega
            | false =>
              rw [anyB_no hmx] at c1
              have H2 := Lib.hid (HB.out fun h => allN_none hx hmx h.1)
              clear hx hmx
              go_wp2
              go_ret
              exact ⟨by rw [H2.out]; rfl, Below.refl _ _⟩
          obtain rfl : i = m := by omega
          have z1 : decide ((i : Int) < (i : Int)) = false := decide_eq_false (by omega)
          have H2 := Lib.hid (HG.out (by have := HD.out; rw [List.take_of_length_le (by omega)] at this; exact this))
          go_wp2
          go_ret
          exact ⟨by rw [H2.out]; rfl, Below.refl _ _⟩
        · have y1 : ((m : Int) != (k : Int)) = true := by simp [hk]
          have HN := Lib.hid (parseB_bad (n := u0) (r := r) (fun h => hk (by have := h.2; rw [hN, hr] at this; have := Option.some.inj this; omega)))
          clear hN hR
          go_enter Tryd.func25, Tryd.ntmps25
          go_wp2_with (go_at_call 13; refine KN.out.mono ?_; rintro e w2 ⟨rfl, rfl⟩)
          go_ret
          exact ⟨by rw [HN.out]; rfl, Below.refl _ _⟩
end Go.Proofs.YtgajcjacnnpfcaaDoor
