/- Layer 6: a bus: masters that may be; a bus is made; its public calls. -/
import Derived.Test.YtabocojmobbpaaaBusG
import Derived.Test.YtabocojmobbpaaaOpen
namespace Go.Proofs.Ytabocojmobbpaaa
open Go.RowKit
set_option linter.unusedVariables false
set_option maxRecDepth 100000
set_option maxHeartbeats 400000
/-- A master that may be. -/
def okM (p u B P : Int) : Prop := (0 ≤ p ∧ p ≤ 100) ∧ (0 ≤ u ∧ u ≤ 1000) ∧ 1 ≤ B ∧ B ≤ P ∧ P ≤ 1099511627776
theorem bM_yes (p u B P : Int) (w : World) (h : okM p u B P) :
    Calls Try.prog 11 #[.agg #[.int .i64 p, .int .i64 u, .int .u64 B, .int .u64 P]] w fun e w' => e = .returned (.bool true) ∧ Below w.heap.size w w' := by
  obtain ⟨⟨h1, h2⟩, ⟨h3, h4⟩, h5⟩ := h
  have d1 : decide (0 ≤ p) = true := decide_eq_true h1
  have d2 : decide (p ≤ 100) = true := decide_eq_true h2
  have d3 : decide (0 ≤ u) = true := decide_eq_true h3
  have d4 : decide (u ≤ 1000) = true := decide_eq_true h4
  go_enter Try.func11, Try.ntmps11
  go_wp2_with fail
  refine (may_yes B P _ h5).mono ?_
  rintro e w1 ⟨rfl, hw1⟩
  go_wp2_with fail
  go_ret
  exact ⟨rfl, below_box hw1⟩
theorem bM_no (p u B P : Int) (w : World) (h : ¬ okM p u B P) :
    Calls Try.prog 11 #[.agg #[.int .i64 p, .int .i64 u, .int .u64 B, .int .u64 P]] w fun e w' => e = .returned (.bool false) ∧ Below w.heap.size w w' := by
  unfold okM at h
  by_cases h1 : 0 ≤ p
  · have d1 : decide (0 ≤ p) = true := decide_eq_true h1
    by_cases h2 : p ≤ 100
    · have d2 : decide (p ≤ 100) = true := decide_eq_true h2
      by_cases h3 : 0 ≤ u
      · have d3 : decide (0 ≤ u) = true := decide_eq_true h3
        by_cases h4 : u ≤ 1000
        · have d4 : decide (u ≤ 1000) = true := decide_eq_true h4
          have h5 : ¬ (1 ≤ B ∧ B ≤ P ∧ P ≤ 1099511627776) := fun h6 => h ⟨⟨h1, h2⟩, ⟨h3, h4⟩, h6⟩
          clear h
          have H5 := Lib.hid h5
          clear h5
          go_enter Try.func11, Try.ntmps11
          go_wp2_with fail
          refine (may_no B P _ H5.out).mono ?_
          rintro e w1 ⟨rfl, hw1⟩
          go_wp2_with fail
          go_ret
          exact ⟨rfl, below_box hw1⟩
        · have d4 : decide (u ≤ 1000) = false := decide_eq_false h4
          clear h
          go_enter Try.func11, Try.ntmps11
          go_wp2_with fail
          go_ret
          exact ⟨rfl, (Below.refl _ _).alloc (Nat.le_refl _) _⟩
      · have d3 : decide (0 ≤ u) = false := decide_eq_false h3
        clear h
        go_enter Try.func11, Try.ntmps11
        go_wp2_with fail
        go_ret
        exact ⟨rfl, (Below.refl _ _).alloc (Nat.le_refl _) _⟩
    · have d2 : decide (p ≤ 100) = false := decide_eq_false h2
      clear h
      go_enter Try.func11, Try.ntmps11
      go_wp2_with fail
      go_ret
      exact ⟨rfl, (Below.refl _ _).alloc (Nat.le_refl _) _⟩
  · have d1 : decide (0 ≤ p) = false := decide_eq_false h1
    clear h
    go_enter Try.func11, Try.ntmps11
    go_wp2_with fail
    go_ret
    exact ⟨rfl, (Below.refl _ _).alloc (Nat.le_refl _) _⟩
/-- Masters as they are read. -/
structure MV (C : BC) (V : Nat → Nat → Value) : Prop where
  v0 : ∀ j, j < C.n → V j 0 = .int .i64 (C.prio j)
  v1 : ∀ j, j < C.n → V j 1 = .int .i64 (C.burst j)
  v2 : ∀ j, j < C.n → V j 2 = .int .u64 (C.B j)
  v3 : ∀ j, j < C.n → V j 3 = .int .u64 (C.P j)
theorem MV.at_ {C : BC} {V : Nat → Nat → Value} (hV : MV C V) {w wr : World} {A : Option Addr} (rd : RdM w A C.n 4 V) (hb : Below w.heap.size w wr) {k : Nat} (hk : k < C.n) :
    ∃ b off, A = some ⟨b, off, none⟩ ∧ wr.cell? ⟨b, off + k * 4, none⟩ = some (.int .i64 (C.prio k)) ∧ wr.cell? ⟨b, off + k * 4 + 1, none⟩ = some (.int .i64 (C.burst k)) ∧ wr.cell? ⟨b, off + k * 4 + 2, none⟩ = some (.int .u64 (C.B k)) ∧ wr.cell? ⟨b, off + k * 4 + 3, none⟩ = some (.int .u64 (C.P k)) := by
  obtain ⟨b, off, e, e0, e1, e2, e3⟩ := rd.at4 hb hk
  exact ⟨b, off, e, by rw [e0, hV.v0 k hk], by rw [e1, hV.v1 k hk], by rw [e2, hV.v2 k hk], by rw [e3, hV.v3 k hk]⟩
section
variable {w0 w w' : World} {S0 : Nat → Prop} {L : List Res} {C : BC} {b g : Nat} {mp : Nat → Nat} {M now : Int} {s : BS} {k : Nat}
theorem bnew_len {A : Option Addr} {n cap : Nat} {ph : Int} (w : World) (h : ¬ (1 ≤ n ∧ n ≤ 16)) :
    Calls Try.prog 10 #[.slice A n cap, .int .u64 ph] w fun e w' => e = .returned (.tuple #[.pointer none, .int .i64 1]) ∧ Below w.heap.size w w' := by
  by_cases h1 : n < 1
  · obtain rfl : n = 0 := by omega
    clear h h1
    go_enter Try.func10, Try.ntmps10
    go_wp2_with fail
    go_ret2
    exact ⟨rfl, Below.refl _ _⟩
  · have d1 : decide ((n : Int) < 1) = false := decide_eq_false (by omega)
    have d2 : decide (16 < (n : Int)) = true := decide_eq_true (by omega)
    clear h h1
    go_enter Try.func10, Try.ntmps10
    go_wp2_with fail
    go_ret2
    exact ⟨rfl, Below.refl _ _⟩
theorem bnew_bad {A : Option Addr} {cap : Nat} {ph : Int} {V : Nat → Nat → Value} (w : World) (h1 : 1 ≤ C.n) (h16 : C.n ≤ 16) (rd : RdM w A C.n 4 V) (hV : MV C V) (h : ¬ ∀ i, i < C.n → okM (C.prio i) (C.burst i) (C.B i) (C.P i)) :
    Calls Try.prog 10 #[.slice A C.n cap, .int .u64 ph] w fun e w' => e = .returned (.tuple #[.pointer none, .int .i64 1]) ∧ Below w.heap.size w w' := by
  have d1 : decide ((C.n : Int) < 1) = false := decide_eq_false (by omega)
  have d2 : decide (16 < (C.n : Int)) = false := decide_eq_false (by omega)
  obtain ⟨i0, h2, h3, h4⟩ := first_bad h
  clear h
  go_enter Try.func10, Try.ntmps10
  go_wp2_with fail
  go_loopw [23] (fun i wr => ∃ k : Nat, k ≤ i0 ∧ i = .int .i64 k ∧ Below w.heap.size w wr) (fun i _ => C.n - (intOf i).toNat)
  case atStart => exact ⟨0, by omega, rfl, Below.refl _ _⟩
  case round =>
    obtain ⟨k, hk, rfl, hB⟩ := hrel
    have hlt : k < C.n := by omega
    obtain ⟨ib, off, rfl, e0, e1, e2, e3⟩ := hV.at_ rd hB hlt
    have hB2 := hB.alloc hB.size (.cells #[.int .i64 (C.prio k), .int .i64 (C.burst k), .int .u64 (C.B k), .int .u64 (C.P k)] 34)
    by_cases hlt2 : k < i0
    · have HY := Lib.hid (h4 k hlt2)
      clear h3 h4
      go_wp2_with fail
      refine (bM_yes _ _ _ _ _ HY.out).mono ?_
      rintro e w1 ⟨rfl, hw1⟩
      have hB3 := below_then hB2 hw1
      go_wp2
      go_roundw
      case rel => exact ⟨k + 1, by omega, by go_num, hB3⟩
      case measure => simp [intOf]; omega
    · obtain rfl : k = i0 := by omega
      have HY := Lib.hid h3
      clear h3 h4
      go_wp2_with fail
      refine (bM_no _ _ _ _ _ HY.out).mono ?_
      rintro e w1 ⟨rfl, hw1⟩
      have hB3 := below_then hB2 hw1
      go_wp2
      go_ret2
      exact ⟨rfl, hB3⟩
theorem stalls_yes (H : St w0 S0 w L) (k : Nat) (hk : L[k]? = some (BusR C b g mp M s)) (hC : C.OK) (i : Nat) (hi : i < C.n) :
    Calls Try.prog 19 #[.pointer (some ⟨b, 0, none⟩), .int .i64 i] w fun e w' => e = .returned (.int .i64 (s.st i)) ∧ St w0 S0 w' L := by
  obtain ⟨c0, c1, c2, c3⟩ := (bus_blk H k hk).four
  have m5 := (bus_cells H k hk hi).2.2.2.2.2
  have hn := hC.n16
  have i0 : (0 : Int) ≤ (i : Int) := by omega
  have i1 : (i : Int) < (C.n : Int) := by omega
  have HH := Lib.hid H
  have HY := Lib.hid (has_yes c0 hn i hi)
  clear H
  go_enter Try.func19, Try.ntmps19
  go_wp2_with fail
  refine HY.out.mono ?_
  rintro e w1 ⟨rfl, rfl⟩
  go_wp2_with fail
  go_ret
  exact ⟨rfl, HH.out⟩
theorem stalls_no (H : St w0 S0 w L) (k : Nat) (hk : L[k]? = some (BusR C b g mp M s)) (hC : C.OK) (x : Int) (hx : ¬ (0 ≤ x ∧ x < C.n)) :
    Calls Try.prog 19 #[.pointer (some ⟨b, 0, none⟩), .int .i64 x] w fun e w' => e = .returned (.int .i64 0) ∧ St w0 S0 w' L := by
  obtain ⟨c0, c1, c2, c3⟩ := (bus_blk H k hk).four
  have hn := hC.n16
  have HH := Lib.hid H
  have HY := Lib.hid (has_no c0 hn x hx)
  clear H hx
  go_enter Try.func19, Try.ntmps19
  go_wp2_with fail
  refine HY.out.mono ?_
  rintro e w1 ⟨rfl, rfl⟩
  go_wp2_with fail
  go_ret
  exact ⟨rfl, HH.out⟩
theorem row_o (H : St w0 S0 w L) (k : Nat) (hk : L[k]? = some (BusR C b g mp M s)) :
    Calls Try.prog 17 #[.pointer (some ⟨b, 0, none⟩)] w fun e w' => e = .returned (.tuple #[.int .i64 s.who, .int .i64 s.row]) ∧ St w0 S0 w' L := by
  obtain ⟨c0, c1, c2, c3⟩ := (bus_blk H k hk).four
  have HH := Lib.hid H
  clear H
  go_enter Try.func17, Try.ntmps17
  go_wp2_with fail
  go_quiet (fail)
  go_wp2_with fail
  go_ret2
  exact ⟨rfl, HH.out.drewN _⟩
/-- Are all of them masters' numbers? -/
def okB (nw : Nat) (f : Nat → Int) (n : Nat) : Bool := decide (∀ j, j < nw → 0 ≤ f j ∧ f j < n)
/-- A bus between two calls. -/
abbrev BusP (C : BC) (b g : Nat) (mp : Nat → Nat) (s : BS) : Res := BusR C b g mp s.next s
theorem Slot_o {A : Option Addr} {nw cap kk : Nat} {f : Nat → Int} (H : St w0 S0 w L) (k : Nat) (hk : L[k]? = some (BusP C b g mp s)) (hC : C.OK) (ho : s.OK C kk) (hkk : kk ≤ 2147483648) (hn0 : 0 ≤ now) (hm : nw ≤ maxLen) (rd : Rd w A nw (fun j => .int .i64 (f j)))
    {v e0 : Int} {s' : BS} (hR : SlotR C s now (okB nw f C.n) (wantB nw f) v e0 s') :
    Calls Try.prog 15 #[.pointer (some ⟨b, 0, none⟩), .int .u64 now, .slice A nw cap] w fun e w' => e = .returned (.tuple #[.int .i64 v, .int .i64 e0]) ∧ St w0 S0 w' (L.set k (BusP C b g mp s')) := by
  have hB := bus_blk H k hk
  have stay : ∀ w', Below w.heap.size w w' → St w0 S0 w' (L.set k (BusP C b g mp s)) := fun w' h => by rw [set_same hk]; exact H.stay h
  by_cases hl : now < 4611686018427387904
  · by_cases hf : ∀ j, j < nw → 0 ≤ f j ∧ f j < C.n
    · have e1 : okB nw f C.n = true := decide_eq_true hf
      rw [e1] at hR
      by_cases hx : s.next ≤ now
      · obtain ⟨S, hs, hd⟩ := H
        have hll := (Star.ok L).lt hs
        obtain ⟨T, hT, hok, hTS, hput⟩ := hs.split hk
        refine (slot_main hT hC ho hkk hn0 hl hx hm rd hf hR).mono ?_
        rintro e w' ⟨hP, T', hT', hdid⟩
        refine ⟨hP, _, hput w' _ T' (BusR.ok _ _ _ _ _ _) hT' (fun b hb hn => hdid.block b (hll b hb) hn) (fun b hb => (hdid.own b hb).imp id fun h => fun h2 => by have := hll b h2; omega), ?_⟩
        exact ⟨hdid.os.trans hd.os, hdid.tape.trans hd.tape, hdid.output.trans hd.output, Nat.le_trans hd.size hdid.size,
          fun k hk hn => (hdid.block k (Nat.lt_of_lt_of_le hk hd.size) fun hkT => by rcases hd.own k (hTS k hkT) with h | h; exact hn h; omega).trans (hd.block k hk hn),
          fun b hb => by
            rcases hb with ⟨h1, _⟩ | h1
            · exact hd.own b h1
            · rcases hdid.own b h1 with h2 | h2
              · exact hd.own b (hTS b h2)
              · exact Or.inr (Nat.le_trans hd.size h2)⟩
      · obtain ⟨rfl, rfl, rfl⟩ : v = 0 ∧ e0 = 1 ∧ s' = s := by
          rcases hR with ⟨h, _⟩ | ⟨_, _, h⟩ | ⟨_, _, h, _⟩ | ⟨_, _, h, _⟩
          · exact absurd hl h
          · exact h
          · exact absurd h hx
          · exact absurd h hx
        exact (slot_arg2 hl hB hC.n16 hm rd hf (by omega)).mono fun e w' ⟨he, hb⟩ => ⟨he, stay w' hb⟩
    · have e1 : okB nw f C.n = false := decide_eq_false hf
      rw [e1] at hR
      obtain ⟨rfl, rfl, rfl⟩ : v = 0 ∧ e0 = 1 ∧ s' = s := by
        rcases hR with ⟨h, _⟩ | ⟨_, _, h⟩ | ⟨_, h, _⟩ | ⟨_, h, _⟩
        · exact absurd hl h
        · exact h
        · cases h
        · cases h
      exact (slot_arg1 hl hB.four.1 hC.n16 hm rd hf).mono fun e w' ⟨he, hb⟩ => ⟨he, stay w' hb⟩
  · obtain ⟨rfl, rfl, rfl⟩ : v = 0 ∧ e0 = 2 ∧ s' = s := by
      rcases hR with ⟨_, h⟩ | ⟨h, _⟩ | ⟨h, _⟩ | ⟨h, _⟩
      · exact h
      all_goals exact absurd h hl
    exact (slot_hor hl).mono fun e w' ⟨he, hb⟩ => ⟨he, stay w' hb⟩
end
end Go.Proofs.Ytabocojmobbpaaa
