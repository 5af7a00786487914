/-
  For every list of pairs of unsigned 16-bit numbers WheelAgain answers true, and changes nothing: a timer that is set again goes off at its last time alone; one that was cancelled does not; one that went off may be set anew. No condition.
-/
import Derived.Test.YtklajkjmecfkpaaRows
import Derived.Test.YtklajkjmecfkpaaFr
import Derived.Test.YtklajkjmecfkpaaWhN
import Derived.Test.YtklajkjmecfkpaaRd
import Derived.Test.YtklajkjmecfkpaaOpen
namespace Go.Proofs.Ytklajkjmecfkpaa.wheelAgain
open Go.ChangeShapes Go.WideShapes Go.ChangeAt Go.RowKit
set_option linter.unusedVariables false
theorem own : ownKnob Try.prog.godebug = none := by kernel_rfl
theorem laid : laidOutB Try.prog = true := by kernel_rfl
set_option maxRecDepth 100000
set_option maxHeartbeats 4000000
def tG (g : Nat → Int) (k : Nat) : Int → Option Int := fun i => if 0 ≤ i ∧ i < k ∧ 0 < g i.toNat then some (g i.toNat) else none
theorem tG_zero (g : Nat → Int) : tG g 0 = fun _ => none := by
  funext i; unfold tG; rw [if_neg (by omega)]
theorem tG_some {g : Nat → Int} {k : Nat} {i a : Int} (h : tG g k i = some a) : ∃ j : Nat, i = j ∧ j < k ∧ a = g j ∧ 0 < g j := by
  unfold tG at h
  split at h
  · rename_i hh; injection h with h; exact ⟨i.toNat, by omega, by omega, h.symm, hh.2.2⟩
  · cases h
theorem tG_put {g : Nat → Int} {k : Nat} (hg : 0 < g k) : updT (tG g k) (k : Int) (some (g k)) = tG g (k + 1) := by
  funext i
  unfold updT tG
  by_cases e : i = (k : Int)
  · subst e; rw [if_pos rfl, if_pos ⟨by omega, by omega, by simpa using hg⟩]; rfl
  · rw [if_neg e]
    by_cases h : 0 ≤ i ∧ i < (k : Int) ∧ 0 < g i.toNat
    · rw [if_pos h, if_pos ⟨h.1, by omega, h.2.2⟩]
    · rw [if_neg h, if_neg fun h' => h ⟨h'.1, by omega, h'.2.2⟩]
theorem tG_skip {g : Nat → Int} {k : Nat} (hg : g k = 0) : updT (tG g k) (k : Int) none = tG g (k + 1) := by
  funext i
  unfold updT tG
  by_cases e : i = (k : Int)
  · subst e; rw [if_pos rfl, if_neg fun h' => by have := h'.2.2; simp at this; omega]
  · rw [if_neg e]
    by_cases h : 0 ≤ i ∧ i < (k : Int) ∧ 0 < g i.toNat
    · rw [if_pos h, if_pos ⟨h.1, by omega, h.2.2⟩]
    · rw [if_neg h, if_neg fun h' => h ⟨h'.1, by omega, h'.2.2⟩]
theorem upd2 (T : Int → Option Int) (i : Int) (x y : Option Int) : updT (updT T i x) i y = updT T i y := by
  funext j; unfold updT; split <;> rfl
def wG (g : Nat → Int) (k : Nat) : Nat → Int := fun j => if j < k then g j else 0
theorem wG_put (g : Nat → Int) (k : Nat) (x : Int) (hx : x = g k) (V : Nat → Int) (hV : ∀ j, j ≠ k → V j = wG g k j) : (fun j => if j = k then x else V j) = wG g (k + 1) := by
  funext j
  by_cases e : j = k
  · rw [if_pos e, hx, e]; unfold wG; rw [if_pos (Nat.lt_succ_self k)]
  · rw [if_neg e, hV j e]
    unfold wG
    by_cases h : j < k
    · rw [if_pos h, if_pos (by omega)]
    · rw [if_neg h, if_neg (by omega)]
def VT (T : Int → Option Int) : Nat → Int := fun j => (T (j : Int)).getD 0
theorem wG_end {g : Nat → Int} (hg : ∀ j, 0 ≤ g j) (n : Nat) : wG g n = VT (tG g n) := by
  funext j
  unfold wG VT tG
  by_cases h : j < n
  · rw [if_pos h]
    by_cases h0 : 0 < g j
    · rw [if_pos ⟨by omega, by omega, by simpa using h0⟩]; rfl
    · rw [if_neg fun h' => h0 (by simpa using h'.2.2)]
      have := hg j
      show g j = 0
      omega
  · rw [if_neg h, if_neg (by omega)]; rfl
def tt : Nat → Int | 0 => 0 | 1 => 100 | 2 => 5000 | _ => 70000
theorem tt_b : ∀ p, p < 3 → 0 ≤ tt p ∧ tt p < tt (p + 1) ∧ tt (p + 1) ≤ 70000
  | 0, _ => by decide
  | 1, _ => by decide
  | 2, _ => by decide
  | p + 3, h => by omega
/-- What is wanted still, once the first of o are crossed out. -/
def Vm (T : Int → Option Int) (o : List Int) (m : Nat) : Nat → Int := fun j => if (j : Int) ∈ o.take m then 0 else VT T j
theorem vm_zero (T : Int → Option Int) (o : List Int) : Vm T o 0 = VT T := by funext j; unfold Vm; simp
theorem vm_step {T : Int → Option Int} {o : List Int} {m d : Nat} (h : o[m]? = some (d : Int)) : (fun j => if j = d then 0 else Vm T o m j) = Vm T o (m + 1) := by
  funext j
  unfold Vm
  rw [List.take_add_one, h]
  by_cases e : j = d
  · rw [if_pos e, if_pos (by simp [e])]
  · rw [if_neg e]
    by_cases h2 : (j : Int) ∈ o.take m
    · rw [if_pos h2, if_pos (List.mem_append_left _ h2)]
    · rw [if_neg h2, if_neg fun h3 => ?_]
      rcases List.mem_append.1 h3 with h3 | h3
      · exact h2 h3
      · simp at h3; omega
theorem vm_at {T : Int → Option Int} {u : Int} {o : List Int} {m : Nat} {i : Int} (ho : OffP T u o) (h : o[m]? = some i) : ∃ a, T i = some a ∧ a ≤ u ∧ ∀ d : Nat, i = d → Vm T o m d = a := by
  obtain ⟨a, h1, h2⟩ := (ho.mem i).1 (List.mem_of_getElem? h)
  refine ⟨a, h1, h2, fun d hd => ?_⟩
  subst hd
  unfold Vm
  rw [if_neg fun h3 => ?_]
  · unfold VT; rw [h1]; rfl
  · obtain ⟨q, hq, e⟩ := List.mem_iff_getElem.1 h3
    rw [List.length_take] at hq
    rw [List.getElem_take] at e
    have hlt := (List.getElem?_eq_some_iff.1 h).1
    have := (List.getElem_inj (i := q) (j := m) (h₀ := by omega) (h₁ := hlt) ho.nodup).1 (by rw [e]; exact ((List.getElem?_eq_some_iff.1 h).2).symm)
    omega
theorem vm_end {T : Int → Option Int} {u : Int} {o : List Int} (ho : OffP T u o) : Vm T o o.length = VT (aft T u) := by
  funext j
  unfold Vm
  rw [List.take_length]
  by_cases h : (j : Int) ∈ o
  · rw [if_pos h]
    obtain ⟨a, h1, h2⟩ := (ho.mem _).1 h
    unfold VT; rw [aft_off h1 h2]; rfl
  · rw [if_neg h]
    unfold VT
    cases hT : T (j : Int) with
    | none => rw [aft_none hT]
    | some a =>
      rw [aft_at hT]
      apply Int.lt_of_not_ge
      intro h3
      exact h ((ho.mem _).2 ⟨a, hT, h3⟩)
theorem walk (A : Option Addr) (n cap : Nat) (f : Nat → Int × Int) (w : World) (hm : n ≤ maxLen) (rd : RdM w A n 2 (fun j i => match i with | 0 => .int .u16 (f j).1 | _ => .int .u16 (f j).2)) (hf : ∀ j, j < n → (0 ≤ (f j).1 ∧ (f j).1 ≤ 65535) ∧ 0 ≤ (f j).2 ∧ (f j).2 ≤ 65535) :
    Calls Try.prog 5 #[.slice A n cap] w fun r w' => r = .returned (.bool true) ∧ Below w.heap.size w w' := by
  unfold maxLen at hm
  have RD := Lib.hid rd
  have HF := Lib.hid hf
  clear rd hf
  by_cases hbig : 60 < n
  · have d1 : decide (60 < (n : Int)) = true := decide_eq_true (by omega)
    have d1' : decide (60 < n) = true := decide_eq_true hbig
    go_enter Try.func5, Try.ntmps5
    go_wp2_with fail
    refine (awake_c _).mono ?_
    rintro e w1 ⟨rfl, b1⟩
    go_wp2_with fail
    go_ret
    exact ⟨rfl, b1⟩
  have d1 : decide (60 < (n : Int)) = false := decide_eq_false (by omega)
  have d1' : decide (60 < n) = false := decide_eq_false hbig
  obtain ⟨iI, hiI, hzI, hsI, hbI⟩ := info3w YtklajkjmecfkpaaiI
  have mk : ∀ W : World, (Instr.makeSlice 36 (.int .i64 60) (.int .i64 60)).run Try.prog W = .ok (.slice (some ⟨W.heap.size, 0, none⟩) 60 60) (W.alloc (.cells (madeCells #[.int .i64 0] 60) 3)) := fun W => run_make_rowN (P := Try.prog) 36 3 iI (.int .i64 0) Try.underlying36 hiI hzI rfl hsI .i64 .i64 60 (by rw [hbI]; omega) (by omega) W
  obtain ⟨g, hg⟩ : ∃ g : Nat → Int, g = fun k => if k < n then (if (1 + (f k).1) % 3 = 0 then 0 else if (1 + (f k).1) % 3 = 1 then 1 + (f k).2 else 1 + (f k).1) else 0 := ⟨_, rfl⟩
  have GB := Lib.hid (show ∀ j, 0 ≤ g j ∧ g j ≤ 65536 from fun j => by
    rw [hg]; dsimp only
    split
    · rename_i h; have := HF.out j h
      split
      · omega
      · split <;> omega
    · omega)
  have G0 := Lib.hid (show ∀ j, j < n → (1 + (f j).1) % 3 = 0 → g j = 0 from fun j h h1 => by rw [hg]; dsimp only; rw [if_pos h, if_pos h1])
  have G1 := Lib.hid (show ∀ j, j < n → (1 + (f j).1) % 3 = 1 → g j = 1 + (f j).2 from fun j h h1 => by rw [hg]; dsimp only; rw [if_pos h, if_neg (by omega), if_pos h1])
  have G2 := Lib.hid (show ∀ j, j < n → (1 + (f j).1) % 3 ≠ 0 → (1 + (f j).1) % 3 ≠ 1 → g j = 1 + (f j).1 from fun j h h0 h1 => by rw [hg]; dsimp only; rw [if_pos h, if_neg h0, if_neg h1])
  clear hg
  go_enter Try.func5, Try.ntmps5
  go_wp2_with fail
  refine (awake_c _).mono ?_
  rintro e w1 ⟨rfl, b1⟩
  have S1 := Lib.hid ((St.begin w).stay b1)
  clear b1
  go_wp2_with fail
  refine (wNew_o S1.out).mono ?_
  rintro e w2 ⟨c, rfl, s2⟩
  have s3 := s2.made_row 3 60 (.int .i64 0)
  obtain ⟨ga, hga⟩ : ∃ ga, w2.heap.size = ga := ⟨_, rfl⟩
  rw [hga] at s3
  have S2 := Lib.hid s3
  clear s2 S1 s3
  go_wp2_with fail
  clear mk
  go_loopw [5, 6, 7] (fun x5 x6 x7 wr => ∃ k : Nat, k ≤ n ∧ x5 = .int .i64 k ∧ St w None wr [WheelR c 0 (tG g k), ArrR ga 3 60 (fun j => .int .i64 (wG g k j))]) (fun i _ _ _ => n - (intOf i).toNat)
  case atStart => exact ⟨0, by omega, rfl, by
    rw [tG_zero]
    exact S2.out.arr_like 1 rfl (V' := fun j => .int .i64 (wG g 0 j)) (fun j hj => by unfold wG; rw [if_neg (by omega)])⟩
  case round =>
  clear S2 hga
  obtain ⟨k, hk, rfl, sr⟩ := hrel
  by_cases hlt : k < n
  · obtain ⟨ib, off, rfl, e0, e1⟩ := RD.out.at2 sr.below hlt
    obtain ⟨hf0, hf1⟩ := HF.out k hlt
    have H0 := Lib.hid (G0.out k hlt)
    have H1 := Lib.hid (G1.out k hlt)
    have H2 := Lib.hid (G2.out k hlt)
    obtain ⟨x, hx⟩ : ∃ x, (f k).1 = x := ⟨_, rfl⟩
    obtain ⟨y, hy⟩ : ∃ y, (f k).2 = y := ⟨_, rfl⟩
    rw [hx] at e0 hf0 H0 H1 H2
    rw [hy] at e1 hf1 H1
    have HG := Lib.hid (GB.out k)
    obtain ⟨s1, s2⟩ := set_new (now := 0) (id := (k : Int)) (a := 1 + x) (by omega) (by omega) (by omega) (by omega) (tG g k)
    have A1 := Lib.hid s1
    have T1 := Lib.hid s2
    obtain ⟨s1, s2⟩ := set_new (now := 0) (id := (k : Int)) (a := 1 + y) (by omega) (by omega) (by omega) (by omega) (updT (tG g k) (k : Int) (some (1 + x)))
    rw [upd2] at s2
    have A2 := Lib.hid s1
    have T2 := Lib.hid s2
    obtain ⟨r, hr⟩ : ∃ r, (1 + x) % 3 = r := ⟨_, rfl⟩
    have r0 : 0 ≤ r ∧ r < 3 := by omega
    have h1 : Int.tmod (1 + x) 3 = r := by rw [Int.tmod_eq_emod_of_nonneg (by omega)]; exact hr
    rw [hr] at H0 H1 H2
    have SR := Lib.hid sr
    clear sr hx hy s1 s2
    go_wp2_with fail
    refine (wSet_o SR.out 0 rfl (by omega)).mono ?_
    rintro e w3 ⟨rfl, s3⟩
    rw [T1.out] at s3
    rw [A1.out]
    have s3 : St w None w3 [WheelR c 0 (updT (tG g k) (k : Int) (some (1 + x))), ArrR ga 3 60 (fun j => .int .i64 (wG g k j))] := s3
    have e3 := s3.arr_cell 1 rfl (k := k) (by omega)
    have e4 := s3.arr_frozen 1 rfl k
    have s4 : St w None _ [_, _] := s3.arr_set 1 rfl (k := k) (by omega) (.int .i64 (1 + x))
    have S4 := Lib.hid s4
    clear s3 s4 SR e0 e1 A1 T1
    have hk60 : k < 60 := by omega
    by_cases hr0 : r = 0
    · have E0 := Lib.hid (H0.out hr0)
      clear H0 H1 H2
      subst hr0
      have y1 : ((0 : Int) == 0) = true := rfl
      have hsome : (updT (tG g k) (k : Int) (some (1 + x)) (k : Int)).isSome = true := by unfold updT; rw [if_pos rfl]; rfl
      have HS := Lib.hid hsome
      clear hsome
      go_wp2_with fail
      refine (wCancel_o S4.out 0 rfl (dom_wf (by omega) (by omega))).mono ?_
      rintro e w5 ⟨rfl, s5⟩
      rw [if_pos HS.out]
      rw [upd2, tG_skip E0.out] at s5
      have s5 : St w None w5 [WheelR c 0 (tG g (k + 1)), _] := s5
      have e5 := s5.arr_cell 1 rfl (k := k) hk60
      have e6 := s5.arr_frozen 1 rfl k
      have s6 := (s5.arr_set 1 rfl (k := k) hk60 (.int .i64 0)).arr_like 1 rfl (V' := fun j => .int .i64 (wG g (k + 1) j)) (fun j hj => by
        rw [← wG_put g k 0 E0.out.symm (wG g k) fun _ _ => rfl]
        dsimp only
        split <;> rfl)
      have S6 := Lib.hid s6
      clear s5 s6 S4 HS e3 e4
      go_wp2_with fail
      go_roundw
      case rel => exact ⟨k + 1, by omega, by go_num, S6.out⟩
      case measure => simp [intOf]; omega
    · have y1 : (r == 0) = false := by simpa using hr0
      by_cases hr1 : r = 1
      · have E1 := Lib.hid (H1.out hr1)
        clear H0 H1 H2
        subst hr1
        have y2 : ((1 : Int) == 1) = true := rfl
        go_wp2_with fail
        refine (wSet_o S4.out 0 rfl (by omega)).mono ?_
        rintro e w5 ⟨rfl, s5⟩
        rw [T2.out] at s5
        rw [A2.out]
        rw [← E1.out, tG_put (by rw [E1.out]; omega)] at s5
        have s5 : St w None w5 [WheelR c 0 (tG g (k + 1)), ArrR ga 3 60 _] := s5
        have e5 := s5.arr_cell 1 rfl (k := k) hk60
        have e6 := s5.arr_frozen 1 rfl k
        have s6 := (s5.arr_set 1 rfl (k := k) hk60 (.int .i64 (1 + y))).arr_like 1 rfl (V' := fun j => .int .i64 (wG g (k + 1) j)) (fun j hj => by
          rw [← wG_put g k (1 + y) E1.out.symm (wG g k) fun _ _ => rfl]
          dsimp only
          split <;> rfl)
        have S6 := Lib.hid s6
        clear s5 s6 S4 e3 e4
        go_wp2_with fail
        go_roundw
        case rel => exact ⟨k + 1, by omega, by go_num, S6.out⟩
        case measure => simp [intOf]; omega
      · have y2 : (r == 1) = false := by simpa using hr1
        have s4 := S4.out
        have E2 := Lib.hid (H2.out hr0 hr1)
        clear H0 H1 H2
        have hput : updT (tG g k) (k : Int) (some (1 + x)) = tG g (k + 1) := by rw [← E2.out, tG_put (by rw [E2.out]; omega)]
        rw [hput] at s4
        clear hput
        have S6 := Lib.hid (s4.arr_like 1 rfl (V' := fun j => .int .i64 (wG g (k + 1) j)) (fun j hj => by
          rw [← wG_put g k (1 + x) E2.out.symm (wG g k) fun _ _ => rfl]
          dsimp only
          split <;> rfl))
        clear s4 S4
        go_wp2_with fail
        go_roundw
        case rel => exact ⟨k + 1, by omega, by go_num, S6.out⟩
        case measure => simp [intOf]; omega
  · obtain rfl : k = n := by omega
    have z1 : decide ((k : Int) < (k : Int)) = false := decide_eq_false (by omega)
    obtain ⟨T, hT⟩ : ∃ T, tG g k = T := ⟨_, rfl⟩
    have TB := Lib.hid (show ∀ i a, T i = some a → ∃ j : Nat, i = j ∧ j < k ∧ 0 < a ∧ a ≤ 65536 from fun i a h => by
      rw [← hT] at h
      obtain ⟨j, e, hj, ea, h0⟩ := tG_some h
      have := GB.out j
      exact ⟨j, e, hj, by omega, by omega⟩)
    rw [wG_end (fun j => (GB.out j).1) k, hT] at sr
    have hn60 : k ≤ 60 := by omega
    have s2 := sr.box_arr 3 #[.int .i64 100, .int .i64 5000, .int .i64 70000] 3 (fun j => .int .i64 (tt (j + 1))) rfl (fun i hi => by
      match i, hi with
      | 0, _ => rfl
      | 1, _ => rfl
      | 2, _ => rfl)
    obtain ⟨gb, hgb⟩ : ∃ gb, wr.heap.size = gb := ⟨_, rfl⟩
    rw [hgb] at s2
    have S2 := Lib.hid (show St w None _ [WheelR c (tt 0) (aft T (tt 0)), ArrR ga 3 60 (fun j => .int .i64 (VT (aft T (tt 0)) j)), ArrR gb 3 3 (fun j => .int .i64 (tt (j + 1)))] by
      rw [aft_like fun i a h => by obtain ⟨j, -, -, h0, -⟩ := TB.out i a h; exact h0]
      exact s2)
    clear sr hlt hT s2
    go_wp2_with fail
    go_loopw [78, 9, 10, 11, 12, 13] (fun x78 x9 x10 x11 x12 x13 wr => ∃ p : Nat, p ≤ 3 ∧ x78 = .int .i64 p ∧ St w None wr [WheelR c (tt p) (aft T (tt p)), ArrR ga 3 60 (fun j => .int .i64 (VT (aft T (tt p)) j)), ArrR gb 3 3 (fun j => .int .i64 (tt (j + 1)))]) (fun i _ _ _ _ _ _ => 3 - (intOf i).toNat)
    case atStart => exact ⟨0, by omega, rfl, S2.out⟩
    case round =>
    clear S2 z1 hgb
    obtain ⟨p, hp, rfl, sr⟩ := hrel
    by_cases hlt : p < 3
    · have y1 : decide ((p : Int) < 3) = true := decide_eq_true (by omega)
      have y1' : decide (p < 3) = true := decide_eq_true hlt
      have e0 := sr.arr_cell 2 rfl (k := p) hlt
      obtain ⟨b0, b1, b2⟩ := tt_b p hlt
      obtain ⟨t, ht⟩ : ∃ t, tt (p + 1) = t := ⟨_, rfl⟩
      have HTP := Lib.hid ht
      rw [ht] at e0 b1 b2
      obtain ⟨q1, q2, q3⟩ := go_ok (now := tt p) (u := t) (by omega) (by omega) (aft T (tt p))
      rw [aft_aft (by omega)] at q3
      have Q1 := Lib.hid q1
      have Q2 := Lib.hid q2
      have Q3 := Lib.hid q3
      have B0 := Lib.hid b0
      have B1 := Lib.hid b1
      have hw : IntKind.u64.wrap t = t := IntWalk.u64_in _ ⟨by omega, by omega⟩
      have t0 : 0 < t := by omega
      have SR := Lib.hid sr
      clear q1 q2 q3 ht sr b0 b1
      go_wp2_with fail
      refine (wGo_o SR.out 0 rfl (by omega)).mono ?_
      rintro e w4 ⟨A4, n4, c4, o, rfl, g4, hn4, hn5, s4⟩
      rw [Q2.out, Q3.out] at s4
      rw [Q1.out]
      have HO := Lib.hid (g4.off (Int.le_of_lt B1.out) (by omega))
      have HN := Lib.hid hn4
      have S4 := Lib.hid (show St w None w4 [WheelR c t (aft T t), ArrR ga 3 60 (fun j => .int .i64 (Vm (aft T (tt p)) o 0 j)), ArrR gb 3 3 (fun j => .int .i64 (tt (j + 1))), LisR 3 1 (.slice A4 n4 c4) n4 (iv o)] by rw [vm_zero]; exact s4)
      clear s4 SR g4 hn4 Q1 Q2 Q3 e0 hw
      go_wp2_with fail
      go_loopw [12] (fun x12 wr => ∃ m : Nat, m ≤ n4 ∧ x12 = .int .i64 m ∧ St w None wr [WheelR c t (aft T t), ArrR ga 3 60 (fun j => .int .i64 (Vm (aft T (tt p)) o m j)), ArrR gb 3 3 (fun j => .int .i64 (tt (j + 1))), LisR 3 1 (.slice A4 n4 c4) n4 (iv o)]) (fun i _ => n4 - (intOf i).toNat)
      case atStart => exact ⟨0, by omega, rfl, S4.out⟩
      case round =>
      clear S4
      obtain ⟨m, hmn, rfl, sr⟩ := hrel
      by_cases hlt2 : m < n4
      · have y2 : decide ((m : Int) < (n4 : Int)) = true := decide_eq_true (by omega)
        have y2' : decide (m < n4) = true := decide_eq_true hlt2
        obtain ⟨i0, hi0⟩ : ∃ i0, o[m]? = some i0 := ⟨o[m]'(by rw [HN.out]; exact hlt2), List.getElem?_eq_getElem _⟩
        obtain ⟨a, ha1, ha2, ha3⟩ := vm_at HO.out hi0
        obtain ⟨d, rfl, hd, ha0, -⟩ := TB.out i0 a (aft_some ha1).1
        have hat : Vm (aft T (tt p)) o m d = a := ha3 d rfl
        have hd60 : d < 60 := by omega
        obtain ⟨A', cap', hA, -, -, -, hc⟩ := sr.lis_cells 3 rfl
        injection hA with hA1 hA2 hA3
        subst hA1
        obtain ⟨g3, o3, rfl, hc2⟩ := hc.resolve_left (by omega)
        have e0 := hc2 m _ (iv_get hi0)
        have e1 := sr.arr_cell 1 rfl (k := d) hd60
        have e2 := sr.arr_frozen 1 rfl d
        rw [hat] at e1
        have s5 := (sr.arr_set 1 rfl (k := d) hd60 (.int .i64 0)).arr_like 1 rfl (V' := fun j => .int .i64 (Vm (aft T (tt p)) o (m + 1) j)) (fun j hj => by
          rw [← vm_step hi0]
          dsimp only
          split <;> rfl)
        have S5 := Lib.hid s5
        have y3 : decide ((d : Int) < 0) = false := decide_eq_false (by omega)
        have y4 : decide ((k : Int) ≤ (d : Int)) = false := decide_eq_false (by omega)
        have y4' : decide (k ≤ d) = false := decide_eq_false (by omega)
        have y5 : (a == 0) = false := by simpa using (show a ≠ 0 by omega)
        have y6 : decide (t < a) = false := decide_eq_false (by omega)
        have d0 : (0 : Int) ≤ (d : Int) := by omega
        have d60 : (d : Int) < 60 := by omega
        clear s5 sr hc hc2 hi0 ha1 ha3 hat hA2
        go_wp2_with fail
        go_roundw
        case rel => exact ⟨m + 1, by omega, by go_num, S5.out⟩
        case measure => simp [intOf]; omega
      · obtain rfl : m = n4 := by omega
        have y2 : decide ((m : Int) < (m : Int)) = false := decide_eq_false (by omega)
        rw [show Vm (aft T (tt p)) o m = VT (aft T t) by rw [← HN.out, vm_end HO.out, aft_aft (Int.le_of_lt B1.out)]] at sr
        have SR := Lib.hid sr
        clear sr
        go_wp2_with fail
        go_loopw [13] (fun x13 wr => ∃ m : Nat, m ≤ k ∧ x13 = .int .i64 m ∧ St w None wr [WheelR c t (aft T t), ArrR ga 3 60 (fun j => .int .i64 (VT (aft T t) j)), ArrR gb 3 3 (fun j => .int .i64 (tt (j + 1)))]) (fun i _ => k - (intOf i).toNat)
        case atStart => exact ⟨0, by omega, rfl, SR.out.drop 3 (by simp)⟩
        case round =>
        clear SR y2
        obtain ⟨m, hmk, rfl, sr⟩ := hrel
        by_cases hlt3 : m < k
        · have y2 : decide ((m : Int) < (k : Int)) = true := decide_eq_true (by omega)
          have y2' : decide (m < k) = true := decide_eq_true hlt3
          have e1 := sr.arr_cell 1 rfl (k := m) (by omega)
          have hv : VT (aft T t) m ≤ 0 ∨ t < VT (aft T t) m := by
            unfold VT
            cases hx : aft T t (m : Int) with
            | none => exact Or.inl (Int.le_refl 0)
            | some a => exact Or.inr (aft_some hx).2
          obtain ⟨v, hv2⟩ : ∃ v, VT (aft T t) m = v := ⟨_, rfl⟩
          rw [hv2] at hv e1
          have SR := Lib.hid sr
          clear sr hv2
          rcases hv with hv | hv
          · have y3 : decide (0 < v) = false := decide_eq_false (by omega)
            go_wp2_with fail
            go_roundw
            case rel => exact ⟨m + 1, by omega, by go_num, SR.out⟩
            case measure => simp [intOf]; omega
          · have y3 : decide (0 < v) = true := decide_eq_true (by omega)
            have y4 : decide (v ≤ t) = false := decide_eq_false (by omega)
            go_wp2_with fail
            go_roundw
            case rel => exact ⟨m + 1, by omega, by go_num, SR.out⟩
            case measure => simp [intOf]; omega
        · obtain rfl : m = k := by omega
          have y2 : decide ((m : Int) < (m : Int)) = false := decide_eq_false (by omega)
          have SR := Lib.hid sr
          clear sr
          go_wp2_with fail
          go_roundw
          case rel => exact ⟨p + 1, by omega, by go_num, by rw [HTP.out]; exact SR.out⟩
          case measure => simp [intOf]; omega
    · obtain rfl : p = 3 := by omega
      have hz : aft T (tt 3) = fun _ => none := aft_all fun i a h => by obtain ⟨j, -, -, -, h0⟩ := TB.out i a h; show a ≤ 70000; omega
      rw [hz] at sr
      have SR := Lib.hid sr
      clear sr hz
      go_wp2_with fail
      refine (wLen_o SR.out 0 rfl).mono ?_
      rintro e w5 ⟨rfl, s5⟩
      rw [cnt_none]
      have S5 := Lib.hid s5
      clear s5 SR
      go_wp2_with fail
      refine (wSet_o S5.out 0 rfl (by omega)).mono ?_
      rintro e w6 ⟨rfl, s6⟩
      rw [show setA (tt 3) 0 70001 = 0 from rfl]
      have B6 := Lib.hid s6.below
      clear s6 S5
      go_wp2_with fail
      go_ret
      exact ⟨rfl, B6.out⟩

set_option maxRecDepth 100000 in
theorem lifted (os : Os) (started : os.Started) (H : Type) (enc : TypeId × Value → H) :
    ReturnsInHanded {} Try.checked os 5 .any (Rows.wheelAgainSpec.pre6 enc Try.prog Try.f5 Rows.wheelAgainRow.domain false) (Rows.wheelAgainSpec.post enc Try.prog Try.f5 false true false false) := by
  refine law_lifted (C := Try.checked) (tb := 4) own started (by kernel_rfl) Try.func5
    (ChangeSpec.witness6 (enc := enc) (C := Try.checked) false ⟨#[], #[.slice none 0 0], []⟩ 8 (by kernel_rfl) (by kernel_rfl) (by kernel_rfl) (by kernel_rfl)) laid (by kernel_rfl) (by kernel_rfl) Try.underlying4 rfl ?_
  intro W base args ds ps hval0 hA0 hlt
  have hval : ∀ (j : Nat) t v, Try.f5.params[j]? = some t → args[j]? = some v → Value.okWide Try.prog W .any base t v := hval0
  have hA : DataW.TrodAll enc Try.prog W 0 (fun _ => true) true Try.f5.params.toList args.toList ds ps := hA0
  clear hA0 hval0
  rw [Try.params5] at hA hval
  obtain ⟨v0, vs0, d0, ds0, p0, q0, hargs, rfl, rfl, h0, r0⟩ := trodAll_cons hA
  obtain ⟨rfl, rfl, rfl⟩ := trodAll_nil r0
  obtain rfl : args = #[v0] := by cases args; simp_all
  obtain ⟨A0, n0, cap0, V0, rfl, le0, mx0, rd0, lf0⟩ := open_slice_spots (m := 2) (d := 20) (l := [(0, 48), (1, 48)]) Try.underlying47 (by kernel_rfl) (by decide) (by kernel_rfl) (hval 0 47 v0 rfl rfl) h0
  have f0_0 := fun j hj => leaf_int Try.underlying48 (lf0 0 48 (by simp) j hj)
  have f0_1 := fun j hj => leaf_int Try.underlying48 (lf0 1 48 (by simp) j hj)
  refine ⟨⟨rfl, rfl, rfl⟩, ?_⟩
  obtain ⟨T, hT⟩ := Go.Deep.choose_lt (n := n0) (p := fun j (d : Int × Int) => V0 j 0 = .int .u16 d.1 ∧ V0 j 1 = .int .u16 d.2 ∧ (0 ≤ d.1 ∧ d.1 ≤ 65535) ∧ 0 ≤ d.2 ∧ d.2 ≤ 65535) (fun j hj => by
    obtain ⟨x0, h0, b0⟩ := f0_0 j hj
    obtain ⟨x1, h1, b1⟩ := f0_1 j hj
    exact ⟨⟨x0, x1⟩, h0, h1, bounds_u16 b0, bounds_u16 b1⟩)
  exact walk A0 n0 cap0 T W (by omega) (fun h0 => by
    obtain ⟨b, off, e, hb, hc⟩ := rd0 h0
    refine ⟨b, off, e, hb, fun j hj i hi => ?_⟩
    rw [hc j hj i hi]
    match i, hi with
    | 0, _ => exact congrArg some (hT j hj).1
    | 1, _ => exact congrArg some (hT j hj).2.1) (fun j hj => (hT j hj).2.2)

theorem over : Rows.wheelAgainRow.holds Try.pinned (OpenSpec.ofChange Rows.wheelAgainSpec) :=
  OpenClaim.holds_of_wide 5 Try.f5 rfl rfl rfl rfl rfl rfl rfl ⟨rfl, rfl, rfl, rfl, rfl⟩ rfl rfl rfl rfl rfl (by kernel_rfl) Try.func5 (by kernel_rfl)
    (of_decide_eq_true (by kernel_rfl)) (by unfold Func.isWrapper; first | (rw [if_pos (by decide +kernel)]; kernel_rfl) | (rw [if_neg (by decide +kernel)]; exact ⟨rfl, rfl⟩))
    (fun os started H enc _ => lifted os started H enc)
theorem proved : Rows.WheelAgainSaid := over
#print axioms proved
end Go.Proofs.Ytklajkjmecfkpaa.wheelAgain
