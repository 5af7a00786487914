/- Layer 6: a bus: stalls, and the slot's hand-out. -/
import Derived.Test.YtabocojmobbpaaaBusE
namespace Go.Proofs.Ytabocojmobbpaaa
open Go.RowKit
set_option linter.unusedVariables false
set_option maxRecDepth 100000
set_option maxHeartbeats 400000
/-- Those below k are counted. -/
def stlK (st : Nat → Int) (want : Nat → Bool) (b : Int) (k : Nat) : Nat → Int := fun i => if i < k then stl st want b i else st i
theorem stlK_zero (st : Nat → Int) (want : Nat → Bool) (b : Int) : stlK st want b 0 = st := by funext i; simp [stlK]
theorem stlK_yes {st : Nat → Int} {want : Nat → Bool} {b : Int} {k : Nat} (h1 : want k = true) (h2 : (k : Int) ≠ b) : upd (stlK st want b k) k (st k + 1) = stlK st want b (k + 1) := by
  funext i
  unfold upd stlK
  by_cases e : i = k
  · subst e; simp [stl, h1, h2]
  · rw [if_neg e]; by_cases h : i < k
    · rw [if_pos h, if_pos (by omega)]
    · rw [if_neg h, if_neg (by omega)]
theorem stlK_no {st : Nat → Int} {want : Nat → Bool} {b : Int} {k : Nat} (h : ¬ (want k = true ∧ (k : Int) ≠ b)) : stlK st want b k = stlK st want b (k + 1) := by
  funext i
  unfold stlK
  by_cases e : i = k
  · subst e; simp [stl, h]
  · by_cases h : i < k
    · rw [if_pos h, if_pos (by omega)]
    · rw [if_neg h, if_neg (by omega)]
theorem stlK_at (st : Nat → Int) (want : Nat → Bool) (b : Int) (k : Nat) : stlK st want b k k = st k := by simp [stlK]
theorem stlK_end {st : Nat → Int} {want : Nat → Bool} {b : Int} {n : Nat} {i : Nat} (h : i < n) : stlK st want b n i = stl st want b i := by simp [stlK, h]
section
variable {w0 w w' : World} {S0 : Nat → Prop} {L : List Res} {C : BC} {b g : Nat} {mp : Nat → Nat} {M now : Int} {s : BS} {k : Nat}
/-- Of the stalls only those of the masters count. -/
theorem bus_like {s' : BS} (H : St w0 S0 w L) (k : Nat) (hk : L[k]? = some (BusR C b g mp M s)) (h1 : ∀ i, i < C.n → s'.st i = s.st i) (h2 : s'.ws = s.ws) (h3 : s'.next = s.next) (h4 : s'.who = s.who) (h5 : s'.row = s.row) : St w0 S0 w (L.set k (BusR C b g mp M s')) := by
  obtain ⟨ws', st', next', who', row'⟩ := s'
  dsimp only at h1 h2 h3 h4 h5
  subst h2; subst h3; subst h4; subst h5
  exact H.turn hk (BusR.ok _ _ _ _ _ _) fun T h => ((St.start h).arr_like (V' := mcell C mp st') 1 rfl (fun j hj => by
    unfold mcell
    repeat (split; rfl)
    rw [h1 _ (by omega)])).fin fun S' h' => h'
theorem bstall {m : Nat → Bool} (v : Int) (H : St w0 S0 w L) (k : Nat) (hk : L[k]? = some (BusR C b g mp M s)) (hC : C.OK) (hb : ∀ i, i < C.n → 0 ≤ s.st i ∧ s.st i < 4611686018427387904) :
    Calls Try.prog 30 #[.pointer (some ⟨b, 0, none⟩), .agg (marksV m), .int .i64 v] w fun e w' => e = .returned (.tuple #[]) ∧ St w0 S0 w' (L.set k (BusR C b g mp M { s with st := stl s.st m v })) := by
  obtain ⟨c0, c1, c2, c3⟩ := (bus_blk H k hk).four
  have c0 := cell_alloc c0 (.cells (marksV m) 75)
  have hn := hC.n16
  have hkl := (List.getElem?_eq_some_iff.1 hk).1
  have s1 : St w0 S0 _ (ArrR w.heap.size 75 16 (fun j => .bool (m j)) :: L) := (H.box_arr 75 (marksV m) 16 _ rfl (fun i hi => by
    match i, hi with
    | 0, _ | 1, _ | 2, _ | 3, _ | 4, _ | 5, _ | 6, _ | 7, _ | 8, _ | 9, _ | 10, _ | 11, _ | 12, _ | 13, _ | 14, _ | 15, _ => rfl
    | n + 16, h => omega)).comm
  have S1 := Lib.hid (show St w0 S0 _ (ArrR w.heap.size 75 16 (fun j => .bool (m j)) :: L.set k (BusR C b g mp M { s with st := stlK s.st m v 0 })) by rw [stlK_zero, set_same hk]; exact s1)
  clear s1 H
  unfold marksV at S1 c0
  unfold marksV
  go_enter Try.func30, Try.ntmps30
  go_wp2_with fail
  go_loopw [12] (fun i wr => ∃ j : Nat, j ≤ C.n ∧ i = .int .i64 j ∧ St w0 S0 wr (ArrR w.heap.size 75 16 (fun j => .bool (m j)) :: L.set k (BusR C b g mp M { s with st := stlK s.st m v j }))) (fun i _ => C.n - (intOf i).toNat)
  case atStart => exact ⟨0, by omega, rfl, S1.out⟩
  case round =>
    clear c0 S1
    obtain ⟨j, hj, rfl, sr⟩ := hrel
    by_cases hlt : j < C.n
    · have hk2 : (ArrR w.heap.size 75 16 (fun j => .bool (m j)) :: L.set k (BusR C b g mp M { s with st := stlK s.st m v j }))[k + 1]? = some (BusR C b g mp M { s with st := stlK s.st m v j }) := by
        rw [List.getElem?_cons_succ, List.getElem?_set_self hkl]
      have cm := sr.arr_cell 0 rfl (show j < 16 by omega)
      have q0 := (bus_blk sr (k + 1) hk2).four.1
      have q5 := (bus_cells sr (k + 1) hk2 hlt).2.2.2.2.2
      have qf := bus_frozen sr (k + 1) hk2 (j * 6 + 5)
      dsimp only at q5
      rw [stlK_at] at q5
      have i0 : (0 : Int) ≤ (j : Int) := by omega
      have i1 : (j : Int) < (C.n : Int) := by omega
      have i2 : (j : Int) < 16 := by omega
      have hbj := hb j hlt
      by_cases hw : m j = true
      · by_cases hv : (j : Int) = v
        · have hS := Lib.hid (show St w0 S0 wr (ArrR w.heap.size 75 16 (fun j => .bool (m j)) :: L.set k (BusR C b g mp M { s with st := stlK s.st m v (j + 1) })) by rw [← stlK_no (fun h => h.2 hv)]; exact sr)
          rw [hw] at cm
          have d1 : ((j : Int) == v) = true := beq_iff_eq.2 hv
          have d2 : ((j : Int) != v) = false := by simp [bne, d1]
          clear hw hv sr hk2
          go_wp2
          go_roundw
          case rel => exact ⟨j + 1, by omega, by go_num, hS.out⟩
          case measure => simp [intOf]; omega
        · have hS' := bus_stalls sr (k + 1) hk2 hlt (s.st j + 1)
          have hS := Lib.hid (show St w0 S0 _ (ArrR w.heap.size 75 16 (fun j => .bool (m j)) :: L.set k (BusR C b g mp M { s with st := stlK s.st m v (j + 1) })) by
            dsimp only at hS'
            rw [stlK_yes hw hv, List.set_cons_succ, List.set_set] at hS'
            exact hS')
          rw [hw] at cm
          have d1 : ((j : Int) == v) = false := beq_eq_false_iff_ne.2 hv
          have d2 : ((j : Int) != v) = true := by simp [bne, d1]
          clear hw hv sr hS' hk2
          go_wp2
          go_roundw
          case rel => exact ⟨j + 1, by omega, by go_num, hS.out⟩
          case measure => simp [intOf]; omega
      · have hS := Lib.hid (show St w0 S0 wr (ArrR w.heap.size 75 16 (fun j => .bool (m j)) :: L.set k (BusR C b g mp M { s with st := stlK s.st m v (j + 1) })) by rw [← stlK_no (fun h => hw h.1)]; exact sr)
        have hw' : m j = false := by simpa using hw
        rw [hw'] at cm
        clear hw hw' sr hk2
        go_wp2
        go_roundw
        case rel => exact ⟨j + 1, by omega, by go_num, hS.out⟩
        case measure => simp [intOf]; omega
    · obtain rfl : j = C.n := by omega
      have hS := Lib.hid (show St w0 S0 wr (L.set k (BusR C b g mp M { s with st := stl s.st m v })) by
        have h2 := sr.drop 0 (by simp)
        have h3 : St w0 S0 wr (L.set k (BusR C b g mp M { s with st := stlK s.st m v C.n })) := h2
        have h4 := bus_like (s' := { s with st := stl s.st m v }) h3 k (List.getElem?_set_self hkl) (fun i hi => (stlK_end hi).symm) rfl rfl rfl rfl
        rwa [List.set_set] at h4)
      clear sr
      go_wp2
      go_end0
      exact ⟨rfl, hS.out⟩
theorem bhave_no (H : St w0 S0 w L) (k : Nat) (hk : L[k]? = some (BusR C b g mp M s)) (hnow : 0 ≤ now ∧ now < 4611686018427387904) :
    Calls Try.prog 31 #[.pointer (some ⟨b, 0, none⟩), .int .u64 now, .int .i64 (-1)] w fun e w' => e = .returned (.tuple #[]) ∧ St w0 S0 w' (L.set k (BusR C b g mp M { s with next := now + 1, who := -1, row := 0 })) := by
  have hkl := (List.getElem?_eq_some_iff.1 hk).1
  have hB := bus_blk H k hk
  obtain ⟨c0, c1, c2, c3⟩ := hB.four
  have f1 := hB.frozen 1
  have f2 := hB.frozen 2
  have f3 := hB.frozen 3
  have h1 := bus_who H k hk (-1)
  have h2 := bus_row h1 k (List.getElem?_set_self hkl) 0
  have h3 := bus_next h2 k (List.getElem?_set_self (by simpa using hkl)) (now + 1)
  simp only [List.set_set] at h3
  have HS := Lib.hid h3
  clear h1 h2 h3 H hk
  by_cases hw : s.who = -1
  · have d1 : ((-1 : Int) == s.who) = true := beq_iff_eq.2 hw.symm
    have d2 : ((-1 : Int) != s.who) = false := by simp [bne, d1]
    clear hw
    go_enter Try.func31, Try.ntmps31
    go_wp2
    refine bodyPost_ret (v := .tuple #[]) ?_ rfl ⟨rfl, HS.out⟩
    simp [results, go_sem]
  · have d1 : ((-1 : Int) == s.who) = false := beq_eq_false_iff_ne.2 (Ne.symm hw)
    have d2 : ((-1 : Int) != s.who) = true := by simp [bne, d1]
    clear hw
    go_enter Try.func31, Try.ntmps31
    go_wp2
    refine bodyPost_ret (v := .tuple #[]) ?_ rfl ⟨rfl, HS.out⟩
    simp [results, go_sem]
theorem bhave_yes (H : St w0 S0 w L) (k : Nat) (hk : L[k]? = some (BusR C b g mp now s)) (hC : C.OK) (hnow : 0 ≤ now ∧ now < 4611686018427387904) {i : Nat} (hi : i < C.n) (hl : 0 < C.left s.ws i now) (hr : 0 ≤ s.row ∧ s.row < 4611686018427387904) :
    Calls Try.prog 31 #[.pointer (some ⟨b, 0, none⟩), .int .u64 now, .int .i64 i] w fun e w' => e = .returned (.tuple #[]) ∧
      St w0 S0 w' (L.set k (BusR C b g mp now ⟨upd s.ws i (s.ws i ++ [(C.K i now, 1)]), s.st, now + 1, i, (if s.who = i then s.row else 0) + 1⟩)) := by
  have hn := hC.n16
  have hkl := (List.getElem?_eq_some_iff.1 hk).1
  have hB := bus_blk H k hk
  obtain ⟨c0, c1, c2, c3⟩ := hB.four
  have m4 := (bus_cells H k hk hi).2.2.2.2.1
  have hgb := hB.lt
  have hne : g ≠ b := by
    intro e
    obtain ⟨S, F, f1, f2, f3, f4⟩ := H.get k hk
    have h0 := (f1 0 _ rfl).2.2
    obtain ⟨arr, hb, _, _, h1⟩ := (f1 1 _ rfl).2
    exact absurd (f2 0 1 b ((h0 b).2 rfl) ((h1 b).2 e.symm)) (by omega)
  have f1 := hB.frozen 1
  have f2 := hB.frozen 2
  have f3 := hB.frozen 3
  have i0 : (0 : Int) ≤ (i : Int) := by omega
  have i1 : (i : Int) < (C.n : Int) := by omega
  have di : ((i : Int) == -1) = false := beq_eq_false_iff_ne.2 (by omega)
  by_cases hw : s.who = i
  · have h1 := bus_next H k hk (now + 1)
    have h2 := bus_row h1 k (List.getElem?_set_self hkl) (s.row + 1)
    simp only [List.set_set] at h2
    rw [if_pos hw]
    have d1 : ((i : Int) == s.who) = true := beq_iff_eq.2 hw.symm
    have d2 : ((i : Int) != s.who) = false := by simp [bne, d1]
    have HT := Lib.hid (bus_take h2 k (List.getElem?_set_self (by simpa using hkl)) hi hnow.2 hl)
    have HW := Lib.hid hw
    clear h1 h2 H hk hl hw
    go_enter Try.func31, Try.ntmps31
    go_wp2_with fail
    refine HT.out.mono ?_
    rintro e w9 ⟨rfl, s9⟩
    simp only [List.set_set] at s9
    rw [HW.out] at s9
    have S9 := Lib.hid s9
    clear s9
    go_wp2_with fail
    go_end0
    exact ⟨rfl, S9.out⟩
  · have h1 := bus_who H k hk i
    have h2 := bus_row h1 k (List.getElem?_set_self hkl) 0
    have h3 := bus_next h2 k (List.getElem?_set_self (by simpa using hkl)) (now + 1)
    have h4 := bus_row h3 k (List.getElem?_set_self (by simpa using hkl)) 1
    simp only [List.set_set] at h4
    have HT := Lib.hid (bus_take h4 k (List.getElem?_set_self (by simpa using hkl)) hi hnow.2 hl)
    rw [if_neg hw]
    have d1 : ((i : Int) == s.who) = false := beq_eq_false_iff_ne.2 (Ne.symm hw)
    have d2 : ((i : Int) != s.who) = true := by simp [bne, d1]
    clear h1 h2 h3 h4 H hk hl hw
    go_enter Try.func31, Try.ntmps31
    go_wp2_with fail
    refine HT.out.mono ?_
    rintro e w9 ⟨rfl, s9⟩
    simp only [List.set_set] at s9
    have S9 := Lib.hid s9
    clear s9
    go_wp2_with fail
    go_end0
    exact ⟨rfl, S9.out⟩
end
end Go.Proofs.Ytabocojmobbpaaa
