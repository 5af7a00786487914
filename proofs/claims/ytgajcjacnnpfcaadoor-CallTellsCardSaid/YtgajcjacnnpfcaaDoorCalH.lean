/- Layer 21: the document's may a command be. -/
import Derived.Test.YtgajcjacnnpfcaaDoorCalG
namespace Go.Proofs.YtgajcjacnnpfcaaDoor
open Go.RowKit
set_option linter.unusedVariables false
set_option maxRecDepth 100000
set_option maxHeartbeats 4000000
theorem take_bad {xs : List Int} {i : Nat} {x : Int} (h : xs[i]? = some x) (hx : inN x = false) : (xs.take (i + 1)).all inN = false := by
  rw [List.take_add_one, h, List.all_append]
  simp [hx]
theorem take_off {xs : List Int} {i : Nat} (h : (xs.take i).all inN = false) : (xs.take (i + 1)).all inN = false := by
  rw [List.take_add_one, List.all_append, h]; rfl
theorem rmay_o (s : ByteArray) (A : Option Addr) (n c : Nat) (xs : List Int) (w : World) (hn : xs.length = n) (hn2 : n ≤ 100000) (hx : ∀ x ∈ xs, -9223372036854775808 ≤ x ∧ x ≤ 9223372036854775807) (hA : ∀ i x, xs[i]? = some x → ∃ g off, A = some ⟨g, off, none⟩ ∧ g < w.heap.size ∧ w.cell? ⟨g, off + i, none⟩ = some (.int .i64 x)) :
    Calls Tryd.prog 22 #[.agg #[.string s, .slice A n c]] w fun e w' => e = .returned (.bool (mayC s.data.toList xs)) ∧ Below w.heap.size w w' := by
  have KN := Lib.hid (rnums_o s)
  have hb := (St.begin w).box 25 #[.string s, .slice A n c]
  have hcs := (hb.blk 0 rfl).two
  obtain ⟨N, hN⟩ : ∃ N, nm s.data.toList = N := ⟨_, rfl⟩
  unfold numsV at KN
  rw [hN] at KN
  have HN := Lib.hid hN
  clear hN
  go_enter Tryd.func22, Tryd.ntmps22
  go_wp2_with (go_at_call 14; refine (KN.out _).mono ?_; rintro e w2 ⟨rfl, rfl⟩)
  go_loopw [4, 5] (fun x4 x5 wr => ∃ (i : Nat) (o : Bool), i ≤ n ∧ x5 = .int .i64 (i : Int) ∧ x4 = .bool o ∧ o = (N.isSome && (xs.take i).all inN) ∧ wr = w.alloc (.cells #[.string s, .slice A n c] 25)) (fun _ x5 _ => n - (intOf x5).toNat)
  case atStart => exact ⟨0, N.isSome, Nat.zero_le _, rfl, rfl, by simp, rfl⟩
  case round =>
  obtain ⟨i, o, hi, rfl, rfl, ho, rfl⟩ := hrel
  have HO := Lib.hid ho
  clear ho
  by_cases hlt : i < n
  · have z1 : decide ((i : Int) < (n : Int)) = true := decide_eq_true (by omega)
    obtain ⟨x, hxi⟩ : ∃ x, xs[i]? = some x := ⟨xs[i]'(by omega), List.getElem?_eq_getElem _⟩
    obtain ⟨g, off, rfl, hg, hc0⟩ := hA i x hxi
    have hc : (w.alloc (.cells #[.string s, .slice (some ⟨g, off, none⟩) n c] 25)).cell? ⟨g, off + i, none⟩ = some (.int .i64 x) := by rw [hb.cell (p := ⟨g, off + i, none⟩) hg (fun h => h)]; exact hc0
    obtain ⟨b1, b2⟩ := hx x (List.mem_of_getElem? hxi)
    have HX := Lib.hid hxi
    clear hxi
    cases o with
    | false =>
      have h2 : false = (N.isSome && (xs.take (i + 1)).all inN) := by
        have := HO.out
        cases hN : N.isSome with
        | false => rfl
        | true =>
          rw [hN, Bool.true_and] at this
          rw [take_off this.symm]; rfl
      have H2 := Lib.hid h2
      clear h2
      go_wp2
      go_roundw
      case rel => exact ⟨i + 1, false, by omega, by go_num, rfl, H2.out, by first | trivial | rfl⟩
      case measure => simp [intOf]; omega
    | true =>
      have ho := HO.out.symm
      rw [Bool.and_eq_true] at ho
      obtain ⟨ho1, ho2⟩ := ho
      by_cases a1 : 0 ≤ x
      · have y1 : decide (0 ≤ x) = true := decide_eq_true a1
        by_cases a2 : x ≤ 2147483647
        · have y2 : decide (x ≤ 2147483647) = true := decide_eq_true a2
          have H2 := Lib.hid (show true = (N.isSome && (xs.take (i + 1)).all inN) by rw [ho1, all_more HX.out (decide_eq_true ⟨a1, a2⟩) ho2]; rfl)
          clear ho1 ho2
          go_wp2
          go_roundw
          case rel => exact ⟨i + 1, true, by omega, by go_num, rfl, H2.out, by first | trivial | rfl⟩
          case measure => simp [intOf]; omega
        · have y2 : decide (x ≤ 2147483647) = false := decide_eq_false a2
          have H2 := Lib.hid (show false = (N.isSome && (xs.take (i + 1)).all inN) by rw [ho1, take_bad HX.out (decide_eq_false (fun h => a2 h.2))]; rfl)
          clear ho1 ho2
          go_wp2
          go_roundw
          case rel => exact ⟨i + 1, false, by omega, by go_num, rfl, H2.out, by first | trivial | rfl⟩
          case measure => simp [intOf]; omega
      · have y1 : decide (0 ≤ x) = false := decide_eq_false a1
        have H2 := Lib.hid (show false = (N.isSome && (xs.take (i + 1)).all inN) by rw [ho1, take_bad HX.out (decide_eq_false (fun h => a1 h.1))]; rfl)
        clear ho1 ho2
        go_wp2
        go_roundw
        case rel => exact ⟨i + 1, false, by omega, by go_num, rfl, H2.out, by first | trivial | rfl⟩
        case measure => simp [intOf]; omega
  obtain rfl : i = n := by omega
  have z1 : decide ((i : Int) < (i : Int)) = false := decide_eq_false (by omega)
  have hall : o = (N.isSome && xs.all inN) := by have := HO.out; rw [← hn, List.take_length] at this; exact this
  have HA := Lib.hid hall
  clear hall
  cases N with
  | none =>
    obtain rfl : o = false := HA.out
    go_wp2
    go_ret
    exact ⟨by rw [mayC_alt, HN.out]; simp, hb.below⟩
  | some k =>
    cases o with
    | false =>
      have hf : xs.all inN = false := HA.out.symm
      have HF := Lib.hid hf
      clear hf
      go_wp2
      go_ret
      exact ⟨by rw [mayC_alt, HF.out]; rfl, hb.below⟩
    | true =>
      have hf : xs.all inN = true := HA.out.symm
      have HF := Lib.hid hf
      clear hf
      by_cases hk : (k : Int) = (i : Int)
      · have y3 : ((k : Int) == (i : Int)) = true := beq_iff_eq.2 hk
        go_wp2
        go_ret
        exact ⟨by rw [mayC_alt, HN.out, HF.out, decide_eq_true (by rw [hn, show i = k by omega])]; rfl, hb.below⟩
      · have y3 : ((k : Int) == (i : Int)) = false := beq_eq_false_iff_ne.2 hk
        go_wp2
        go_ret
        exact ⟨by rw [mayC_alt, HN.out, HF.out, decide_eq_false (fun h => hk (by rw [hn] at h; have := Option.some.inj h; omega))]; rfl, hb.below⟩
end Go.Proofs.YtgajcjacnnpfcaaDoor
