/- Layer 6: a bus: its methods. -/
import Derived.Test.YtabocojmobbpaaaBusC
import Derived.Deep.RegionHeld3
import Derived.BigRegion
namespace Go.Proofs.Ytabocojmobbpaaa
open Go.RowKit
set_option linter.unusedVariables false
set_option maxRecDepth 100000
set_option maxHeartbeats 400000
def marksV (m : Nat → Bool) : Array Value := #[.bool (m 0), .bool (m 1), .bool (m 2), .bool (m 3), .bool (m 4), .bool (m 5), .bool (m 6), .bool (m 7), .bool (m 8), .bool (m 9), .bool (m 10), .bool (m 11), .bool (m 12), .bool (m 13), .bool (m 14), .bool (m 15)]
theorem marks_one (m : Nat → Bool) : (marksV m).all (·.oneCell') = true := by simp [marksV, Value.oneCell']
theorem results_row_tmp {P : Program} {fn : Func} {p q : Tmp} {ty : TypeId} (h : fn.results = #[.cell p ty, .tmp q]) (tmps : Array Value) (w : World) (g : Nat) (t : TypeId) (cs : Array Value) (fr : Nat × Nat) (d : TypeDesc) (v : Value)
    (hp : tmps.getD p undef = .pointer (some ⟨g, 0, none⟩)) (hv : tmps.getD q undef = v) (hg : w.heap[g]? = some (.cells cs t fr))
    (hu : P.underlying ty = some d) (hd : (match d with | .struct _ | .array _ _ => true | _ => false) = true) (hi : (P.info? ty).map (·.size) = some cs.size) :
    (results fn tmps).run P w = .ok (.tuple #[.agg cs, v]) w := by
  have hp' : tmps[p]?.getD undef = .pointer (some ⟨g, 0, none⟩) := by simpa using hp
  have hv' : tmps[q]?.getD undef = v := by simpa using hv
  simp [results, h, hp', hv', asAddr, run_loadVar_row w g t ty cs fr d hg hu hd hi]
theorem first_bad {n : Nat} {P : Nat → Prop} (h : ¬ ∀ j, j < n → P j) : ∃ i, i < n ∧ ¬ P i ∧ ∀ j, j < i → P j := by
  induction n with
  | zero => exact absurd (fun j hj => absurd hj (by omega)) h
  | succ n ih =>
    by_cases h1 : ∀ j, j < n → P j
    · exact ⟨n, by omega, fun hp => h fun j hj => by
        by_cases e : j = n
        · rw [e]; exact hp
        · exact h1 j (by omega), h1⟩
    · obtain ⟨i, a, b, c⟩ := ih h1; exact ⟨i, by omega, b, c⟩
theorem c16 {w : World} {g : Nat} {t : TypeId} {m : Nat → Bool} (h : Blk w g t (marksV m)) :
    w.cell? ⟨g, 0, none⟩ = some (.bool (m 0)) ∧ w.cell? ⟨g, 1, none⟩ = some (.bool (m 1)) ∧ w.cell? ⟨g, 2, none⟩ = some (.bool (m 2)) ∧ w.cell? ⟨g, 3, none⟩ = some (.bool (m 3)) ∧
    w.cell? ⟨g, 4, none⟩ = some (.bool (m 4)) ∧ w.cell? ⟨g, 5, none⟩ = some (.bool (m 5)) ∧ w.cell? ⟨g, 6, none⟩ = some (.bool (m 6)) ∧ w.cell? ⟨g, 7, none⟩ = some (.bool (m 7)) ∧
    w.cell? ⟨g, 8, none⟩ = some (.bool (m 8)) ∧ w.cell? ⟨g, 9, none⟩ = some (.bool (m 9)) ∧ w.cell? ⟨g, 10, none⟩ = some (.bool (m 10)) ∧ w.cell? ⟨g, 11, none⟩ = some (.bool (m 11)) ∧
    w.cell? ⟨g, 12, none⟩ = some (.bool (m 12)) ∧ w.cell? ⟨g, 13, none⟩ = some (.bool (m 13)) ∧ w.cell? ⟨g, 14, none⟩ = some (.bool (m 14)) ∧ w.cell? ⟨g, 15, none⟩ = some (.bool (m 15)) := by
  refine ⟨?_, ?_, ?_, ?_, ?_, ?_, ?_, ?_, ?_, ?_, ?_, ?_, ?_, ?_, ?_, ?_⟩ <;> (rw [h.cell]; rfl)
section
variable {w0 w w' : World} {S0 : Nat → Prop} {L : List Res} {C : BC} {b g : Nat} {mp : Nat → Nat} {M now : Int} {s : BS} {k : Nat}
theorem mark_yes {A : Option Addr} {nw cap : Nat} {f : Nat → Int} (c0 : w.cell? ⟨b, 0, none⟩ = some (.slice (some ⟨g, 0, none⟩) C.n C.n)) (hn : C.n ≤ 16) (hm : nw ≤ maxLen) (rd : Rd w A nw (fun j => .int .i64 (f j))) (hf : ∀ j, j < nw → 0 ≤ f j ∧ f j < C.n) :
    Calls Try.prog 26 #[.pointer (some ⟨b, 0, none⟩), .slice A nw cap] w fun e w' => e = .returned (.tuple #[.agg (marksV (wantB nw f)), .bool true]) ∧ Below w.heap.size w w' := by
  unfold maxLen at hm
  have hbl := block_lt c0
  have C0 := Lib.hid (fun (wr : World) (h : Below w.heap.size w wr) => (h.cell (p := ⟨b, 0, none⟩) hbl).trans c0)
  have s1 : St w None _ [ArrR w.heap.size 75 16 (fun j => .bool (wantB 0 f j))] := (St.begin w).box_arr 75 #[.bool false, .bool false, .bool false, .bool false, .bool false, .bool false, .bool false, .bool false, .bool false, .bool false, .bool false, .bool false, .bool false, .bool false, .bool false, .bool false] 16 _ rfl (fun i hi => by
    rw [wantB_zero]
    match i, hi with
    | 0, _ | 1, _ | 2, _ | 3, _ | 4, _ | 5, _ | 6, _ | 7, _ | 8, _ | 9, _ | 10, _ | 11, _ | 12, _ | 13, _ | 14, _ | 15, _ => rfl
    | n + 16, h => omega)
  clear c0
  go_enter Try.func26, Try.ntmps26
  go_wp2_with fail
  go_loopw [10] (fun i wr => ∃ k : Nat, k ≤ nw ∧ i = .int .i64 k ∧ St w None wr [ArrR w.heap.size 75 16 (fun j => .bool (wantB k f j))]) (fun i _ => nw - (intOf i).toNat)
  case atStart => exact ⟨0, by omega, rfl, s1⟩
  case round =>
    obtain ⟨k, hk, rfl, sr⟩ := hrel
    by_cases hlt : k < nw
    · obtain ⟨ib, off, rfl, hbl2, hcell⟩ := rd.below sr.below (Nat.le_refl _) (by omega)
      obtain ⟨i, hi⟩ : ∃ i : Nat, f k = i := ⟨(f k).toNat, by have := hf k hlt; omega⟩
      have hin : i < C.n := by have := hf k hlt; omega
      have i16 : i < 16 := by omega
      have ck := hcell k hlt
      dsimp only at ck
      rw [hi] at ck
      have fz := sr.arr_frozen 0 rfl i
      have s2 := sr.arr_set 0 rfl i16 (.bool true)
      have s3 : St w None _ [ArrR w.heap.size 75 16 (fun j => .bool (wantB (k + 1) f j))] := s2.arr_like 0 rfl (fun j hj => by rw [wantB_succ k f i hi]; dsimp only; split <;> rfl)
      have HS := Lib.hid s3
      have HY := Lib.hid (has_yes (C0.out _ sr.below) hn i hin)
      have cm := sr.arr_cell 0 rfl i16
      clear hcell s2 s3 hi sr
      go_wp2_with (go_at_call 35; refine HY.out.mono ?_; rintro e w' ⟨rfl, rfl⟩)
      go_roundw
      case rel => exact ⟨k + 1, by omega, by go_num, HS.out⟩
      case measure => simp [intOf]; omega
    · obtain rfl : k = nw := by omega
      have hbk : Blk wr w.heap.size 75 (marksV (wantB k f)) := sr.arr16 0 rfl
      obtain ⟨q0, q1, q2, q3, q4, q5, q6, q7, q8, q9, q10, q11, q12, q13, q14, q15⟩ := c16 hbk
      have hbel := sr.below
      have HBK := Lib.hid hbk
      clear sr C0 s1 rd hbk
      go_wp2_with ((refine wpList_store_blk rfl 75 (.tmp 4) (.tmp 22) rfl w.heap.size (marksV (wantB k f)) rfl rfl 75 _ HBK.out (by kernel_rfl) rfl (marks_one _) ?_; intro w9 hw9 ho9; have HBK9 := Lib.hid hw9; clear hw9))
      refine bodyPost_ret (results_row_tmp Try.results26 _ _ w.heap.size 75 _ (0, 0) _ _ rfl rfl HBK9.out Try.underlying75 rfl (by kernel_rfl)) rfl ⟨rfl, hbel.trans (ho9.below (Nat.le_refl _) hbel.size)⟩
theorem mark_no {A : Option Addr} {nw cap : Nat} {f : Nat → Int} (c0 : w.cell? ⟨b, 0, none⟩ = some (.slice (some ⟨g, 0, none⟩) C.n C.n)) (hn : C.n ≤ 16) (hm : nw ≤ maxLen) (rd : Rd w A nw (fun j => .int .i64 (f j))) (hf : ¬ ∀ j, j < nw → 0 ≤ f j ∧ f j < C.n) :
    Calls Try.prog 26 #[.pointer (some ⟨b, 0, none⟩), .slice A nw cap] w fun e w' => e = .returned (.tuple #[.agg (marksV (fun _ => false)), .bool false]) ∧ Below w.heap.size w w' := by
  unfold maxLen at hm
  have hbl := block_lt c0
  obtain ⟨i0, h1, h2, h3⟩ := first_bad hf
  clear hf
  have C0 := Lib.hid (fun (wr : World) (h : Below w.heap.size w wr) => (h.cell (p := ⟨b, 0, none⟩) hbl).trans c0)
  have s1 : St w None _ [ArrR w.heap.size 75 16 (fun j => .bool (wantB 0 f j))] := (St.begin w).box_arr 75 #[.bool false, .bool false, .bool false, .bool false, .bool false, .bool false, .bool false, .bool false, .bool false, .bool false, .bool false, .bool false, .bool false, .bool false, .bool false, .bool false] 16 _ rfl (fun i hi => by
    rw [wantB_zero]
    match i, hi with
    | 0, _ | 1, _ | 2, _ | 3, _ | 4, _ | 5, _ | 6, _ | 7, _ | 8, _ | 9, _ | 10, _ | 11, _ | 12, _ | 13, _ | 14, _ | 15, _ => rfl
    | n + 16, h => omega)
  clear c0
  go_enter Try.func26, Try.ntmps26
  go_wp2_with fail
  go_loopw [10] (fun i wr => ∃ k : Nat, k ≤ i0 ∧ i = .int .i64 k ∧ St w None wr [ArrR w.heap.size 75 16 (fun j => .bool (wantB k f j))]) (fun i _ => nw - (intOf i).toNat)
  case atStart => exact ⟨0, by omega, rfl, s1⟩
  case round =>
    obtain ⟨k, hk, rfl, sr⟩ := hrel
    have hlt : k < nw := by omega
    obtain ⟨ib, off, rfl, hbl2, hcell⟩ := rd.below sr.below (Nat.le_refl _) (by omega)
    have ck := hcell k hlt
    dsimp only at ck
    by_cases hlt2 : k < i0
    · obtain ⟨i, hi⟩ : ∃ i : Nat, f k = i := ⟨(f k).toNat, by have := h3 k hlt2; omega⟩
      have hin : i < C.n := by have := h3 k hlt2; omega
      have i16 : i < 16 := by omega
      rw [hi] at ck
      have fz := sr.arr_frozen 0 rfl i
      have s2 := sr.arr_set 0 rfl i16 (.bool true)
      have s3 : St w None _ [ArrR w.heap.size 75 16 (fun j => .bool (wantB (k + 1) f j))] := s2.arr_like 0 rfl (fun j hj => by rw [wantB_succ k f i hi]; dsimp only; split <;> rfl)
      have HS := Lib.hid s3
      have HY := Lib.hid (has_yes (C0.out _ sr.below) hn i hin)
      have cm := sr.arr_cell 0 rfl i16
      clear hcell s2 s3 hi sr h2 h3
      go_wp2_with (go_at_call 35; refine HY.out.mono ?_; rintro e w' ⟨rfl, rfl⟩)
      go_roundw
      case rel => exact ⟨k + 1, by omega, by go_num, HS.out⟩
      case measure => simp [intOf]; omega
    · obtain rfl : k = i0 := by omega
      have HY := Lib.hid (has_no (C0.out _ sr.below) hn (f k) h2)
      have hbk : Blk wr w.heap.size 75 (marksV (wantB k f)) := sr.arr16 0 rfl
      have hbel := sr.below
      generalize f k = fk at *
      have HBK := Lib.hid hbk
      clear sr C0 s1 rd hbk h2 h3 hcell
      go_wp2_with (first
        | (go_at_call 35; refine HY.out.mono ?_; rintro e w' ⟨rfl, rfl⟩)
        | (refine wpList_store_blk rfl 75 (.tmp 4) (.tmp 18) rfl w.heap.size (marksV (fun _ => false)) rfl rfl 75 _ HBK.out (by kernel_rfl) rfl (marks_one _) ?_; intro w9 hw9 ho9; have HBK9 := Lib.hid hw9; clear hw9))
      refine bodyPost_ret (results_row_tmp Try.results26 _ _ w.heap.size 75 _ (0, 0) _ _ rfl rfl HBK9.out Try.underlying75 rfl (by kernel_rfl)) rfl ⟨rfl, hbel.trans (ho9.below (Nat.le_refl _) hbel.size)⟩
theorem bmay (H : St w0 S0 w L) (k : Nat) (hk : L[k]? = some (BusR C b g mp now s)) (hC : C.OK) {i : Nat} (hi : i < C.n) (hnow : now < 4611686018427387904) :
    Calls Try.prog 29 #[.pointer (some ⟨b, 0, none⟩), .int .i64 i, .int .u64 now] w fun e w' => e = .returned (.bool (mayB C s.ws s.who s.row now i)) ∧ St w0 S0 w' L := by
  obtain ⟨m0, m1, m2, m3, m4, m5⟩ := bus_cells H k hk hi
  obtain ⟨c0, c1, c2, c3⟩ := (bus_blk H k hk).four
  have hn := hC.n16
  have hb := hC.burst i hi
  have hB := H.front 69 #[.int .i64 (C.prio i), .int .i64 (C.burst i), .int .u64 (C.B i), .int .u64 (C.P i), .pointer (some ⟨mp i, 0, none⟩), .int .i64 (s.st i)]
  have bb := hB.blk 0 rfl
  have e2 := cell_alloc c2 (.cells #[.int .i64 (C.prio i), .int .i64 (C.burst i), .int .u64 (C.B i), .int .u64 (C.P i), .pointer (some ⟨mp i, 0, none⟩), .int .i64 (s.st i)] 69)
  have e3 := cell_alloc c3 (.cells #[.int .i64 (C.prio i), .int .i64 (C.burst i), .int .u64 (C.B i), .int .u64 (C.P i), .pointer (some ⟨mp i, 0, none⟩), .int .i64 (s.st i)] 69)
  have i0 : (0 : Int) ≤ (i : Int) := by omega
  have i1 : (i : Int) < (C.n : Int) := by omega
  have HL := Lib.hid (fun q => bus_left (hB.drewN q) (k + 1) hk hi hnow)
  by_cases h1 : 0 < C.burst i
  · have d1 : decide (0 < C.burst i) = true := decide_eq_true h1
    by_cases h2 : s.who = i
    · have d2 : (s.who == (i : Int)) = true := beq_iff_eq.2 h2
      have H2 := Lib.hid h2
      by_cases h3 : C.burst i ≤ s.row
      · have d3 : decide (C.burst i ≤ s.row) = true := decide_eq_true h3
        have hm : mayB C s.ws s.who s.row now i = false := by simp [mayB, h1, h2, h3]
        have HM := Lib.hid hm
        clear hm h2
        go_enter Try.func29, Try.ntmps29
        go_wp2_with fail
        go_quiet (fail)
        go_wp2_with fail
        go_ret
        exact ⟨by rw [HM.out]; rfl, (hB.drewN _).drop 0 (by simp)⟩
      · have d3 : decide (C.burst i ≤ s.row) = false := decide_eq_false h3
        have HM := Lib.hid (show mayB C s.ws s.who s.row now i = decide (0 < C.left s.ws i now) by simp [mayB, h3])
        clear h2
        go_enter Try.func29, Try.ntmps29
        go_wp2_with fail
        go_quiet (fail)
        go_wp2_with fail
        refine (HL.out _).mono ?_
        rintro e w1 ⟨rfl, s1⟩
        go_wp2_with fail
        go_ret
        exact ⟨by rw [HM.out]; rfl, s1.drop 0 (by simp)⟩
    · have d2 : (s.who == (i : Int)) = false := beq_eq_false_iff_ne.2 h2
      have HM := Lib.hid (show mayB C s.ws s.who s.row now i = decide (0 < C.left s.ws i now) by simp [mayB, h2])
      go_enter Try.func29, Try.ntmps29
      go_wp2_with fail
      go_quiet (fail)
      go_wp2_with fail
      refine (HL.out _).mono ?_
      rintro e w1 ⟨rfl, s1⟩
      go_wp2_with fail
      go_ret
      exact ⟨by rw [HM.out]; rfl, s1.drop 0 (by simp)⟩
  · have d1 : decide (0 < C.burst i) = false := decide_eq_false h1
    have HM := Lib.hid (show mayB C s.ws s.who s.row now i = decide (0 < C.left s.ws i now) by simp [mayB, h1])
    go_enter Try.func29, Try.ntmps29
    go_wp2_with fail
    go_quiet (fail)
    go_wp2_with fail
    refine (HL.out _).mono ?_
    rintro e w1 ⟨rfl, s1⟩
    go_wp2_with fail
    go_ret
    exact ⟨by rw [HM.out]; rfl, s1.drop 0 (by simp)⟩
end
end Go.Proofs.Ytabocojmobbpaaa
