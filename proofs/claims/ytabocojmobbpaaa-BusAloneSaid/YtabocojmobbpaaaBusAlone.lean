/-
  For every master and every wants BusAlone answers true, and changes nothing: who wants the bus alone has it as often as its share and its burst let, and is stalled else. No condition.
-/
import Derived.Test.YtabocojmobbpaaaRows
import Derived.Test.YtabocojmobbpaaaFr
import Derived.Test.YtabocojmobbpaaaBusK
import Derived.LoopTactic
namespace Go.Proofs.Ytabocojmobbpaaa.busAlone
open Go.ChangeShapes Go.WideShapes Go.ChangeAt Go.RowKit
set_option linter.unusedVariables false
theorem own : ownKnob Try.prog.godebug = none := by kernel_rfl
theorem laid : laidOutB Try.prog = true := by kernel_rfl
set_option maxRecDepth 100000
set_option maxHeartbeats 1000000
/-- One master. -/
def C1 (p u B P : Int) : BC := ⟨1, fun _ => p, fun _ => u, fun _ => B, fun _ => P, 0⟩
def V1 (p u B P : Int) (j i : Nat) : Value := if i = 0 then .int .i64 p else if i = 1 then .int .i64 u else if i = 2 then .int .u64 B else .int .u64 P
theorem v1_mv (p u B P : Int) : MV (C1 p u B P) (V1 p u B P) := ⟨fun j _ => rfl, fun j _ => rfl, fun j _ => rfl, fun j _ => rfl⟩
theorem v1_rd (w : World) (t : TypeId) (p u B P : Int) : RdM (w.alloc (.cells #[.int .i64 p, .int .i64 u, .int .u64 B, .int .u64 P] t)) (some ⟨w.heap.size, 0, none⟩) 1 4 (V1 p u B P) :=
  rdm_new w t _ 1 4 _ (fun j hj i hi => by
    match j, hj, i, hi with
    | 0, _, 0, _ | 0, _, 1, _ | 0, _, 2, _ | 0, _, 3, _ => rfl
    | j + 1, h, _, _ => omega
    | 0, _, i + 4, h => omega)
theorem c1_ok {p u B P : Int} (h : okM p u B P) : (C1 p u B P).OK :=
  bc_ok (C := C1 p u B P) (ph := 0) (by show 1 ≤ 1; omega) (by show 1 ≤ 16; omega) (fun _ _ => h) rfl (by omega)
/-- Behind k ticks: how many in this window, and in a row. -/
structure Alone (P : Int) (k : Nat) (s : BS) (row had stl : Int) : Prop where
  next : s.next = k
  st : s.st 0 = stl
  win : ∀ p ∈ s.ws 0, p.1 ≤ ((k : Int) - 1) / P
  had : sw (((k : Int) - 1) / P) (s.ws 0) = had
  row : (s.who = 0 ∧ row = s.row) ∨ (s.who = -1 ∧ row = 0)
theorem fst1 {q : Nat → Bool} {p : Int} : fst q (fun _ => p) 1 = if q 0 = true then 0 else -1 := by
  simp only [fst]
  cases h0 : q 0 <;> simp
theorem div_next {k P : Int} (hP : 1 ≤ P) : (k % P = 0 ∧ (k - 1) / P < k / P) ∨ (k % P ≠ 0 ∧ (k - 1) / P = k / P) := by
  have e := Int.emod_add_mul_ediv k P
  have h0 := Int.emod_nonneg k (show P ≠ 0 by omega)
  have h1 := Int.emod_lt_of_pos k (show 0 < P by omega)
  generalize k % P = r at *
  generalize k / P = q at *
  by_cases hr : r = 0
  · left
    refine ⟨hr, ?_⟩
    have : (k - 1) / P = q - 1 := by
      have e2 : k - 1 = (P - 1) + P * (q - 1) := by rw [Int.mul_sub]; omega
      rw [e2, Int.add_mul_ediv_left _ _ (by omega), Int.ediv_eq_zero_of_lt (by omega) (by omega)]; omega
    omega
  · right
    refine ⟨hr, ?_⟩
    have e2 : k - 1 = (r - 1) + P * q := by omega
    rw [e2, Int.add_mul_ediv_left _ _ (by omega), Int.ediv_eq_zero_of_lt (by omega) (by omega)]; omega
/-- What this window has had, as its tick begins. -/
theorem alone_had {P : Int} {k : Nat} {s : BS} {row had stl : Int} (hP : 1 ≤ P) (h : Alone P k s row had stl) : sw ((k : Int) / P) (s.ws 0) = if (k : Int) % P = 0 then 0 else had := by
  rcases div_next (k := k) hP with ⟨h1, h2⟩ | ⟨h1, h2⟩
  · rw [if_pos h1]; exact sw_zero h.win h2
  · rw [if_neg h1, ← h2]; exact h.had
/-- Nobody wants it. -/
theorem alone_nil {p u B P : Int} {k : Nat} {s s' : BS} {row had stl v f : Int} (hm : okM p u B P) (hk : k < 200) (h : Alone P k s row had stl) (hR : SlotR (C1 p u B P) s k (okB 0 f01 (C1 p u B P).n) (wantB 0 f01) v f s') :
    Alone P (k + 1) s' 0 (if (k : Int) % P = 0 then 0 else had) stl := by
  have hn := h.next
  have hh := alone_had (by have := hm.2.2; omega) h
  have hb : best (C1 p u B P) s k (wantB 0 f01) = -1 := by
    unfold best
    show fst _ (fun _ => p) 1 = _
    rw [fst1, wantB_zero]; simp
  have hok : okB 0 f01 (C1 p u B P).n = true := decide_eq_true (fun j hj => absurd hj (by omega))
  have hk2 : ((k + 1 : Nat) : Int) - 1 = k := by omega
  rw [hok] at hR
  rcases hR with ⟨g, _⟩ | ⟨_, g, _⟩ | ⟨_, _, _, g, _, _, rfl⟩ | ⟨_, _, _, b, hbn, g, _⟩
  · omega
  · exact absurd ⟨rfl, by omega⟩ g
  · refine ⟨by show (k : Int) + 1 = _; omega, ?_, fun q hq => ?_, by rw [hk2]; exact hh, Or.inr ⟨rfl, rfl⟩⟩
    · show Go.Proofs.Ytabocojmobbpaaa.stl s.st (wantB 0 f01) (-1) 0 = stl
      unfold Go.Proofs.Ytabocojmobbpaaa.stl; rw [if_neg (by simp [wantB_zero])]; exact h.st
    · rw [hk2]
      have := h.win q hq
      rcases div_next (k := k) (P := P) (by have := hm.2.2; omega) with ⟨_, h2⟩ | ⟨_, h2⟩ <;> omega
  · omega
/-- It is wanted. -/
theorem alone_one {p u B P : Int} {k : Nat} {s s' : BS} {row had stl v f : Int} (hm : okM p u B P) (hk : k < 200) (h : Alone P k s row had stl) (hR : SlotR (C1 p u B P) s k (okB 1 f01 (C1 p u B P).n) (wantB 1 f01) v f s') :
    ((if (k : Int) % P = 0 then 0 else had) < B ∧ (u = 0 ∨ row < u) ∧ f = 0 ∧ Alone P (k + 1) s' (row + 1) ((if (k : Int) % P = 0 then 0 else had) + 1) stl) ∨
    (¬ ((if (k : Int) % P = 0 then 0 else had) < B ∧ (u = 0 ∨ row < u)) ∧ f = 5 ∧ Alone P (k + 1) s' 0 (if (k : Int) % P = 0 then 0 else had) (stl + 1)) := by
  have hn := h.next
  have hh := alone_had (by have := hm.2.2; omega) h
  have hw1 : s.who1 k = s.who := if_neg (by omega)
  have hr1 : s.row1 k = s.row := if_neg (by omega)
  have hK : (C1 p u B P).K 0 k = (k : Int) / P := by show ((k : Int) - 0) / P = _; rw [Int.sub_zero]
  have hl : (C1 p u B P).left s.ws 0 k = B - (if (k : Int) % P = 0 then 0 else had) := by unfold BC.left; rw [hK, hh]; rfl
  have hw0 : wantB 1 f01 0 = true := by decide
  have hb : best (C1 p u B P) s k (wantB 1 f01) = if ((if (k : Int) % P = 0 then 0 else had) < B ∧ (u = 0 ∨ row < u)) then 0 else -1 := by
    unfold best
    show fst _ (fun _ => p) 1 = _
    rw [fst1, hw0, hw1, hr1]
    unfold mayB
    rw [hl]
    have hu := hm.2.1
    show (if (true && (!(decide (0 < u) && (decide (s.who = ((0 : Nat) : Int)) && decide (u ≤ s.row))) && decide (0 < B - (if (k : Int) % P = 0 then 0 else had)))) = true then (0 : Int) else -1) = _
    generalize (if (k : Int) % P = 0 then 0 else had) = x
    have key : (true && (!(decide (0 < u) && (decide (s.who = ((0 : Nat) : Int)) && decide (u ≤ s.row))) && decide (0 < B - x))) = true ↔ (x < B ∧ (u = 0 ∨ row < u)) := by
      simp only [Bool.true_and, Bool.and_eq_true, Bool.not_eq_true', Bool.and_eq_false_iff, decide_eq_false_iff_not, decide_eq_true_eq]
      rcases h.row with ⟨e1, e2⟩ | ⟨e1, e2⟩ <;> constructor <;> intro g <;> (refine ⟨?_, ?_⟩ <;> omega)
    by_cases g : x < B ∧ (u = 0 ∨ row < u)
    · rw [if_pos (key.2 g), if_pos g]
    · rw [if_neg (fun h => g (key.1 h)), if_neg g]
  have hok : okB 1 f01 (C1 p u B P).n = true := decide_eq_true (fun j hj => by
    obtain rfl : j = 0 := by omega
    exact ⟨by simp [f01], by show f01 0 < ((1 : Nat) : Int); simp [f01]⟩)
  have hk2 : ((k + 1 : Nat) : Int) - 1 = k := by omega
  have hP : 1 ≤ P := by have := hm.2.2; omega
  have hwin : ∀ q ∈ s.ws 0, q.1 ≤ (k : Int) / P := fun q hq => by
    have := h.win q hq
    rcases div_next (k := k) (P := P) hP with ⟨_, h2⟩ | ⟨_, h2⟩ <;> omega
  rw [hok] at hR
  generalize (if (k : Int) % P = 0 then 0 else had) = x at *
  rcases hR with ⟨g, _⟩ | ⟨_, g, _⟩ | ⟨_, _, _, g, _, rfl, rfl⟩ | ⟨_, _, _, b, hbn, g, rfl, rfl, rfl⟩
  · omega
  · exact absurd ⟨rfl, by omega⟩ g
  · right
    rw [hb] at g
    have hno : ¬ (x < B ∧ (u = 0 ∨ row < u)) := fun h => by rw [if_pos h] at g; omega
    refine ⟨hno, rfl, ⟨by show (k : Int) + 1 = _; omega, ?_, fun q hq => by rw [hk2]; exact hwin q hq, by rw [hk2]; exact hh, Or.inr ⟨rfl, rfl⟩⟩⟩
    show Go.Proofs.Ytabocojmobbpaaa.stl s.st (wantB 1 f01) (-1) 0 = stl + 1
    unfold Go.Proofs.Ytabocojmobbpaaa.stl; rw [if_pos ⟨hw0, by simp⟩, h.st]
  · left
    have hb1 : b < 1 := hbn
    obtain rfl : b = 0 := by omega
    rw [hb] at g
    have hyes : x < B ∧ (u = 0 ∨ row < u) := by
      by_cases h : x < B ∧ (u = 0 ∨ row < u)
      · exact h
      · rw [if_neg h] at g; omega
    refine ⟨hyes.1, hyes.2, rfl, ⟨by show (k : Int) + 1 = _; omega, ?_, fun q hq => ?_, ?_, Or.inl ⟨rfl, ?_⟩⟩⟩
    · show Go.Proofs.Ytabocojmobbpaaa.stl s.st (wantB 1 f01) ((0 : Nat) : Int) 0 = stl
      unfold Go.Proofs.Ytabocojmobbpaaa.stl; rw [if_neg (by simp), h.st]
    · rw [hk2]
      have hq' : q ∈ s.ws 0 ++ [((C1 p u B P).K 0 k, 1)] := by simpa [upd] using hq
      rcases List.mem_append.1 hq' with h1 | h1
      · exact hwin q h1
      · simp at h1; rw [h1]; dsimp only; rw [hK]; exact Int.le_refl _
    · rw [hk2]
      show sw _ (upd s.ws 0 (s.ws 0 ++ [((C1 p u B P).K 0 k, 1)]) 0) = _
      simp only [upd, if_pos]
      rw [sw_app, hh, hK, if_pos rfl]
    · show row + 1 = (if s.who1 k = ((0 : Nat) : Int) then s.row1 k else 0) + 1
      rw [hw1, hr1]
      rcases h.row with ⟨e1, e2⟩ | ⟨e1, e2⟩
      · rw [if_pos (by omega), e2]
      · rw [if_neg (by omega), e2]
theorem walk (p u B P : Int) (A : Option Addr) (n cap : Nat) (f : Nat → Bool) (w : World) (hm : n ≤ maxLen) (rd : Rd w A n (fun i => .bool (f i))) :
    Calls Try.prog 5 #[.agg #[.int .i64 p, .int .i64 u, .int .u64 B, .int .u64 P], .slice A n cap] w fun r w' => r = .returned (.bool true) ∧ Below w.heap.size w w' := by
  unfold maxLen at hm
  have sb : St w None _ [_] := (St.begin w).box 34 #[.int .i64 p, .int .i64 u, .int .u64 B, .int .u64 P]
  obtain ⟨b0, b1, b2, b3⟩ := (sb.blk 0 rfl).four
  go_enter Try.func5, Try.ntmps5
  go_wp2_with fail
  refine (bawake _).mono ?_
  rintro e w1 ⟨rfl, hw1⟩
  have s1 := sb.stay hw1
  clear b0 b1 b2 b3 sb
  obtain ⟨b0, b1, b2, b3⟩ := (s1.blk 0 rfl).four
  by_cases hok : okM p u B P
  · go_wp2_with fail
    refine (rbM_yes _ _ _ _ _ hok).mono ?_
    rintro e w2 ⟨rfl, hw2⟩
    have s2 := s1.stay hw2
    clear b0 b1 b2 b3 s1
    obtain ⟨b0, b1, b2, b3⟩ := (s2.blk 0 rfl).four
    by_cases hn : n = 0
    · subst hn
      haveI : Nonempty (Within (fun wr => St w None wr [BlkR w.heap.size 34 #[.int .i64 p, .int .i64 u, .int .u64 B, .int .u64 P]])) := ⟨⟨_, s2⟩⟩
      have f0 : ∀ x : Within (fun wr => St w None wr [BlkR w.heap.size 34 #[.int .i64 p, .int .i64 u, .int .u64 B, .int .u64 P]]), x.w.cell? ⟨w.heap.size, 0, none⟩ = some (.int .i64 p) := fun x => (x.h.blk 0 rfl).four.1
      have f1 : ∀ x : Within (fun wr => St w None wr [BlkR w.heap.size 34 #[.int .i64 p, .int .i64 u, .int .u64 B, .int .u64 P]]), x.w.cell? ⟨w.heap.size, 1, none⟩ = some (.int .i64 u) := fun x => (x.h.blk 0 rfl).four.2.1
      have f2 : ∀ x : Within (fun wr => St w None wr [BlkR w.heap.size 34 #[.int .i64 p, .int .i64 u, .int .u64 B, .int .u64 P]]), x.w.cell? ⟨w.heap.size, 2, none⟩ = some (.int .u64 B) := fun x => (x.h.blk 0 rfl).four.2.2.1
      have f3 : ∀ x : Within (fun wr => St w None wr [BlkR w.heap.size 34 #[.int .i64 p, .int .i64 u, .int .u64 B, .int .u64 P]]), x.w.cell? ⟨w.heap.size, 3, none⟩ = some (.int .u64 P) := fun x => (x.h.blk 0 rfl).four.2.2.2
      have S2 := Lib.hid s2
      clear s2
      go_wp2_with fail
      refine wp_region_in (fun wr => St w None wr [BlkR w.heap.size 34 #[.int .i64 p, .int .i64 u, .int .u64 B, .int .u64 P]]) (by kernel_rfl) (by kernel_rfl) S2.out.drew ?_
      repeat (go_big_quiet_step ((first
        | (go_at_call 11; exact in_call (p := fun wr => St w None wr [BlkR w.heap.size 34 #[.int .i64 p, .int .i64 u, .int .u64 B, .int .u64 P]]) (looks (bM_yes _ _ _ _ _ hok) (Within.h (p := fun wr => St w None wr [BlkR w.heap.size 34 #[.int .i64 p, .int .i64 u, .int .u64 B, .int .u64 P]]) _)))
        | (go_at_call 12; exact in_call (p := fun wr => St w None wr [BlkR w.heap.size 34 #[.int .i64 p, .int .i64 u, .int .u64 B, .int .u64 P]]) (looks (rbM_yes _ _ _ _ _ hok) (Within.h (p := fun wr => St w None wr [BlkR w.heap.size 34 #[.int .i64 p, .int .i64 u, .int .u64 B, .int .u64 P]]) _))))))
      refine wpQuiet_nil ?_
      rintro _ ⟨⟨wq, sq⟩, rfl⟩
      go_wp2
      go_ret
      exact ⟨rfl, sq.below⟩
    · have z0 : ((n : Int) == 0) = false := beq_eq_false_iff_ne.2 (by omega)
      have HC := Lib.hid (c1_ok hok)
      have HT := Lib.hid (show Alone P 0 (bs0 0) 0 0 0 from ⟨rfl, rfl, fun p hp => by simp at hp, by simp [sw], Or.inr ⟨rfl, rfl⟩⟩)
      have H0 := Lib.hid (bs0_ok (c1_ok hok))
      go_wp2_with fail
      refine (bnew2 HC.out rfl rfl (v1_mv p u B P) (s2.alloc _) (v1_rd w2 _ p u B P)).mono ?_
      rintro e w3 ⟨b, g, mp, rfl, s3'⟩
      have s3 : St w None w3 [BlkR w.heap.size 34 #[.int .i64 p, .int .i64 u, .int .u64 B, .int .u64 P], BusP (C1 p u B P) b g mp (bs0 0)] := s3'
      clear b0 b1 b2 b3 s2 s3'
      go_wp2_with fail
      go_loopw [7, 8, 9, 10] (fun row had stl t wr => ∃ (k : Nat) (s : BS) (r hd sl : Int), k ≤ 200 ∧ t = .int .u64 k ∧ row = .int .i64 r ∧ had = .int .u64 hd ∧ stl = .int .i64 sl ∧ Alone P k s r hd sl ∧ s.OK (C1 p u B P) k ∧ (0 ≤ r ∧ r ≤ k) ∧ (0 ≤ hd ∧ hd ≤ k) ∧ (0 ≤ sl ∧ sl ≤ k) ∧
        St w None wr [BlkR w.heap.size 34 #[.int .i64 p, .int .i64 u, .int .u64 B, .int .u64 P], BusP (C1 p u B P) b g mp s]) (fun _ _ _ t _ => 200 - (intOf t).toNat)
      case atStart => exact ⟨0, _, 0, 0, 0, by omega, rfl, rfl, rfl, rfl, HT.out, H0.out, by omega, by omega, by omega, s3⟩
      case round =>
        clear s3
        obtain ⟨k, s, r, hd, sl, hk, rfl, rfl, rfl, rfl, hA, hO, br, bh, bl, sr⟩ := hrel
        by_cases hlt : k < 200
        · obtain ⟨b0, b1, b2, b3⟩ := (sr.blk 0 rfl).four
          have hP : 1 ≤ P := by have := hok.2.2; omega
          obtain ⟨j, hj⟩ : ∃ j : Nat, (k : Int) % (n : Int) = j := ⟨k % n, by simp⟩
          have hjn : j < n := by have := Int.emod_lt_of_pos (k : Int) (show (0 : Int) < n by omega); omega
          obtain ⟨ib, off, rfl, hib, hcell⟩ := rd.below sr.below (Nat.le_refl _) (by omega)
          have ck := hcell j hjn
          dsimp only at ck
          clear hcell
          by_cases hmod' : (k : Int) % P = 0
          · have dm : ((k : Int) % P == 0) = true := beq_iff_eq.2 hmod'
            have hmod := Lib.hid hmod'
            clear hmod'
            cases hw : f j with
            | false =>
              rw [hw] at ck
              clear hw
              obtain ⟨v, e0, s', hR⟩ := slotR_ex (C1 p u B P) s k (okB 0 f01 (C1 p u B P).n) (wantB 0 f01)
              have hA2 := alone_nil hok (by omega) hA hR
              have HA2 := Lib.hid hA2
              have HO2 := Lib.hid (hR.next hO)
              have HR := Lib.hid hR
              have HO := Lib.hid hO
              clear hA hA2 hR hO
              go_wp2_with fail
              refine (Slot_o sr 1 rfl HC.out HO.out (by omega) (by omega) (by unfold maxLen; omega) (fun h => absurd h (by omega)) HR.out).mono ?_
              rintro e w5 ⟨rfl, s5⟩
              go_wp2
              go_roundw
              case rel =>
                have h2 := HA2.out
                rw [if_pos hmod.out] at h2
                exact ⟨k + 1, s', 0, 0, sl, by omega, by go_num, rfl, rfl, rfl, h2, HO2.out, by omega, by omega, by omega, s5⟩
              case measure => simp [intOf]; omega
            | true =>
              rw [hw] at ck
              clear hw
              by_cases g1 : 0 < B
              · have d1 : decide (0 < B) = true := decide_eq_true g1
                by_cases g2 : u = 0
                · subst g2
                  obtain ⟨v, e0, s', hR⟩ := slotR_ex (C1 p 0 B P) s k (okB 1 f01 (C1 p 0 B P).n) (wantB 1 f01)
                  have hA2 := alone_one hok (by omega) hA hR
                  rw [if_pos hmod.out] at hA2
                  have hA3 : e0 = 0 ∧ Alone P (k + 1) s' (r + 1) (0 + 1) sl := by
                    rcases hA2 with ⟨_, _, h3, h4⟩ | ⟨h3, _⟩
                    · exact ⟨h3, h4⟩
                    · exact absurd (by omega) h3
                  have HS := Lib.hid (hA3.2.st)
                  have HA2 := Lib.hid hA3.2
                  have HO2 := Lib.hid (hR.next hO)
                  obtain rfl := hA3.1
                  have HR := Lib.hid hR
                  have HO := Lib.hid hO
                  clear hA hA2 hA3 hR hO
                  go_wp2_with fail
                  refine (Slot_o (sr.alloc _) 1 rfl HC.out HO.out (by omega) (by omega) (by unfold maxLen; omega) (rd0 _ _) HR.out).mono ?_
                  rintro e w5 ⟨rfl, s5'⟩
                  have s5 : St w None w5 [BlkR w.heap.size 34 #[.int .i64 p, .int .i64 0, .int .u64 B, .int .u64 P], _] := s5'
                  clear b0 b1 b2 b3
                  obtain ⟨b0, b1, b2, b3⟩ := (s5.blk 0 rfl).four
                  go_wp2_with fail
                  refine (stalls_yes s5 1 rfl HC.out 0 (by show 0 < 1; omega)).mono ?_
                  rintro e w6 ⟨rfl, s6⟩
                  rw [HS.out]
                  go_wp2
                  go_roundw
                  case rel => exact ⟨k + 1, s', r + 1, 1, sl, by omega, by go_num, rfl, rfl, rfl, HA2.out, HO2.out, by omega, by omega, by omega, s6⟩
                  case measure => simp [intOf]; omega
                · have d2 : (u == 0) = false := beq_eq_false_iff_ne.2 g2
                  by_cases g3 : r < u
                  · have d3 : decide (r < u) = true := decide_eq_true g3
                    obtain ⟨v, e0, s', hR⟩ := slotR_ex (C1 p u B P) s k (okB 1 f01 (C1 p u B P).n) (wantB 1 f01)
                    have hA2 := alone_one hok (by omega) hA hR
                    rw [if_pos hmod.out] at hA2
                    have hA3 : e0 = 0 ∧ Alone P (k + 1) s' (r + 1) (0 + 1) sl := by
                      rcases hA2 with ⟨_, _, h3, h4⟩ | ⟨h3, _⟩
                      · exact ⟨h3, h4⟩
                      · exact absurd (by omega) h3
                    have HS := Lib.hid (hA3.2.st)
                    have HA2 := Lib.hid hA3.2
                    have HO2 := Lib.hid (hR.next hO)
                    obtain rfl := hA3.1
                    have HR := Lib.hid hR
                    have HO := Lib.hid hO
                    clear hA hA2 hA3 hR hO
                    go_wp2_with fail
                    refine (Slot_o (sr.alloc _) 1 rfl HC.out HO.out (by omega) (by omega) (by unfold maxLen; omega) (rd0 _ _) HR.out).mono ?_
                    rintro e w5 ⟨rfl, s5'⟩
                    have s5 : St w None w5 [BlkR w.heap.size 34 #[.int .i64 p, .int .i64 u, .int .u64 B, .int .u64 P], _] := s5'
                    clear b0 b1 b2 b3
                    obtain ⟨b0, b1, b2, b3⟩ := (s5.blk 0 rfl).four
                    go_wp2_with fail
                    refine (stalls_yes s5 1 rfl HC.out 0 (by show 0 < 1; omega)).mono ?_
                    rintro e w6 ⟨rfl, s6⟩
                    rw [HS.out]
                    go_wp2
                    go_roundw
                    case rel => exact ⟨k + 1, s', r + 1, 1, sl, by omega, by go_num, rfl, rfl, rfl, HA2.out, HO2.out, by omega, by omega, by omega, s6⟩
                    case measure => simp [intOf]; omega
                  · have d3 : decide (r < u) = false := decide_eq_false g3
                    obtain ⟨v, e0, s', hR⟩ := slotR_ex (C1 p u B P) s k (okB 1 f01 (C1 p u B P).n) (wantB 1 f01)
                    have hA2 := alone_one hok (by omega) hA hR
                    rw [if_pos hmod.out] at hA2
                    have hA3 : e0 = 5 ∧ Alone P (k + 1) s' 0 0 (sl + 1) := by
                      rcases hA2 with ⟨h3, h4, _⟩ | ⟨_, h3, h4⟩
                      · omega
                      · exact ⟨h3, h4⟩
                    have HS := Lib.hid (hA3.2.st)
                    have HA2 := Lib.hid hA3.2
                    have HO2 := Lib.hid (hR.next hO)
                    obtain rfl := hA3.1
                    have HR := Lib.hid hR
                    have HO := Lib.hid hO
                    clear hA hA2 hA3 hR hO
                    go_wp2_with fail
                    refine (Slot_o (sr.alloc _) 1 rfl HC.out HO.out (by omega) (by omega) (by unfold maxLen; omega) (rd0 _ _) HR.out).mono ?_
                    rintro e w5 ⟨rfl, s5'⟩
                    have s5 : St w None w5 [BlkR w.heap.size 34 #[.int .i64 p, .int .i64 u, .int .u64 B, .int .u64 P], _] := s5'
                    clear b0 b1 b2 b3
                    obtain ⟨b0, b1, b2, b3⟩ := (s5.blk 0 rfl).four
                    go_wp2_with fail
                    refine (stalls_yes s5 1 rfl HC.out 0 (by show 0 < 1; omega)).mono ?_
                    rintro e w6 ⟨rfl, s6⟩
                    rw [HS.out]
                    go_wp2
                    go_roundw
                    case rel => exact ⟨k + 1, s', 0, 0, sl + 1, by omega, by go_num, rfl, rfl, rfl, HA2.out, HO2.out, by omega, by omega, by omega, s6⟩
                    case measure => simp [intOf]; omega
              · have d1 : decide (0 < B) = false := decide_eq_false g1
                obtain ⟨v, e0, s', hR⟩ := slotR_ex (C1 p u B P) s k (okB 1 f01 (C1 p u B P).n) (wantB 1 f01)
                have hA2 := alone_one hok (by omega) hA hR
                rw [if_pos hmod.out] at hA2
                have hA3 : e0 = 5 ∧ Alone P (k + 1) s' 0 0 (sl + 1) := by
                  rcases hA2 with ⟨h3, h4, _⟩ | ⟨_, h3, h4⟩
                  · omega
                  · exact ⟨h3, h4⟩
                have HS := Lib.hid (hA3.2.st)
                have HA2 := Lib.hid hA3.2
                have HO2 := Lib.hid (hR.next hO)
                obtain rfl := hA3.1
                have HR := Lib.hid hR
                have HO := Lib.hid hO
                clear hA hA2 hA3 hR hO
                go_wp2_with fail
                refine (Slot_o (sr.alloc _) 1 rfl HC.out HO.out (by omega) (by omega) (by unfold maxLen; omega) (rd0 _ _) HR.out).mono ?_
                rintro e w5 ⟨rfl, s5'⟩
                have s5 : St w None w5 [BlkR w.heap.size 34 #[.int .i64 p, .int .i64 u, .int .u64 B, .int .u64 P], _] := s5'
                clear b0 b1 b2 b3
                obtain ⟨b0, b1, b2, b3⟩ := (s5.blk 0 rfl).four
                go_wp2_with fail
                refine (stalls_yes s5 1 rfl HC.out 0 (by show 0 < 1; omega)).mono ?_
                rintro e w6 ⟨rfl, s6⟩
                rw [HS.out]
                go_wp2
                go_roundw
                case rel => exact ⟨k + 1, s', 0, 0, sl + 1, by omega, by go_num, rfl, rfl, rfl, HA2.out, HO2.out, by omega, by omega, by omega, s6⟩
                case measure => simp [intOf]; omega
          · have dm : ((k : Int) % P == 0) = false := beq_eq_false_iff_ne.2 hmod'
            have hmod := Lib.hid hmod'
            clear hmod'
            cases hw : f j with
            | false =>
              rw [hw] at ck
              clear hw
              obtain ⟨v, e0, s', hR⟩ := slotR_ex (C1 p u B P) s k (okB 0 f01 (C1 p u B P).n) (wantB 0 f01)
              have hA2 := alone_nil hok (by omega) hA hR
              have HA2 := Lib.hid hA2
              have HO2 := Lib.hid (hR.next hO)
              have HR := Lib.hid hR
              have HO := Lib.hid hO
              clear hA hA2 hR hO
              go_wp2_with fail
              refine (Slot_o sr 1 rfl HC.out HO.out (by omega) (by omega) (by unfold maxLen; omega) (fun h => absurd h (by omega)) HR.out).mono ?_
              rintro e w5 ⟨rfl, s5⟩
              go_wp2
              go_roundw
              case rel =>
                have h2 := HA2.out
                rw [if_neg hmod.out] at h2
                exact ⟨k + 1, s', 0, hd, sl, by omega, by go_num, rfl, rfl, rfl, h2, HO2.out, by omega, by omega, by omega, s5⟩
              case measure => simp [intOf]; omega
            | true =>
              rw [hw] at ck
              clear hw
              by_cases g1 : hd < B
              · have d1 : decide (hd < B) = true := decide_eq_true g1
                by_cases g2 : u = 0
                · subst g2
                  obtain ⟨v, e0, s', hR⟩ := slotR_ex (C1 p 0 B P) s k (okB 1 f01 (C1 p 0 B P).n) (wantB 1 f01)
                  have hA2 := alone_one hok (by omega) hA hR
                  rw [if_neg hmod.out] at hA2
                  have hA3 : e0 = 0 ∧ Alone P (k + 1) s' (r + 1) (hd + 1) sl := by
                    rcases hA2 with ⟨_, _, h3, h4⟩ | ⟨h3, _⟩
                    · exact ⟨h3, h4⟩
                    · exact absurd (by omega) h3
                  have HS := Lib.hid (hA3.2.st)
                  have HA2 := Lib.hid hA3.2
                  have HO2 := Lib.hid (hR.next hO)
                  obtain rfl := hA3.1
                  have HR := Lib.hid hR
                  have HO := Lib.hid hO
                  clear hA hA2 hA3 hR hO
                  go_wp2_with fail
                  refine (Slot_o (sr.alloc _) 1 rfl HC.out HO.out (by omega) (by omega) (by unfold maxLen; omega) (rd0 _ _) HR.out).mono ?_
                  rintro e w5 ⟨rfl, s5'⟩
                  have s5 : St w None w5 [BlkR w.heap.size 34 #[.int .i64 p, .int .i64 0, .int .u64 B, .int .u64 P], _] := s5'
                  clear b0 b1 b2 b3
                  obtain ⟨b0, b1, b2, b3⟩ := (s5.blk 0 rfl).four
                  go_wp2_with fail
                  refine (stalls_yes s5 1 rfl HC.out 0 (by show 0 < 1; omega)).mono ?_
                  rintro e w6 ⟨rfl, s6⟩
                  rw [HS.out]
                  go_wp2
                  go_roundw
                  case rel => exact ⟨k + 1, s', r + 1, hd + 1, sl, by omega, by go_num, rfl, rfl, rfl, HA2.out, HO2.out, by omega, by omega, by omega, s6⟩
                  case measure => simp [intOf]; omega
                · have d2 : (u == 0) = false := beq_eq_false_iff_ne.2 g2
                  by_cases g3 : r < u
                  · have d3 : decide (r < u) = true := decide_eq_true g3
                    obtain ⟨v, e0, s', hR⟩ := slotR_ex (C1 p u B P) s k (okB 1 f01 (C1 p u B P).n) (wantB 1 f01)
                    have hA2 := alone_one hok (by omega) hA hR
                    rw [if_neg hmod.out] at hA2
                    have hA3 : e0 = 0 ∧ Alone P (k + 1) s' (r + 1) (hd + 1) sl := by
                      rcases hA2 with ⟨_, _, h3, h4⟩ | ⟨h3, _⟩
                      · exact ⟨h3, h4⟩
                      · exact absurd (by omega) h3
                    have HS := Lib.hid (hA3.2.st)
                    have HA2 := Lib.hid hA3.2
                    have HO2 := Lib.hid (hR.next hO)
                    obtain rfl := hA3.1
                    have HR := Lib.hid hR
                    have HO := Lib.hid hO
                    clear hA hA2 hA3 hR hO
                    go_wp2_with fail
                    refine (Slot_o (sr.alloc _) 1 rfl HC.out HO.out (by omega) (by omega) (by unfold maxLen; omega) (rd0 _ _) HR.out).mono ?_
                    rintro e w5 ⟨rfl, s5'⟩
                    have s5 : St w None w5 [BlkR w.heap.size 34 #[.int .i64 p, .int .i64 u, .int .u64 B, .int .u64 P], _] := s5'
                    clear b0 b1 b2 b3
                    obtain ⟨b0, b1, b2, b3⟩ := (s5.blk 0 rfl).four
                    go_wp2_with fail
                    refine (stalls_yes s5 1 rfl HC.out 0 (by show 0 < 1; omega)).mono ?_
                    rintro e w6 ⟨rfl, s6⟩
                    rw [HS.out]
                    go_wp2
                    go_roundw
                    case rel => exact ⟨k + 1, s', r + 1, hd + 1, sl, by omega, by go_num, rfl, rfl, rfl, HA2.out, HO2.out, by omega, by omega, by omega, s6⟩
                    case measure => simp [intOf]; omega
                  · have d3 : decide (r < u) = false := decide_eq_false g3
                    obtain ⟨v, e0, s', hR⟩ := slotR_ex (C1 p u B P) s k (okB 1 f01 (C1 p u B P).n) (wantB 1 f01)
                    have hA2 := alone_one hok (by omega) hA hR
                    rw [if_neg hmod.out] at hA2
                    have hA3 : e0 = 5 ∧ Alone P (k + 1) s' 0 hd (sl + 1) := by
                      rcases hA2 with ⟨h3, h4, _⟩ | ⟨_, h3, h4⟩
                      · omega
                      · exact ⟨h3, h4⟩
                    have HS := Lib.hid (hA3.2.st)
                    have HA2 := Lib.hid hA3.2
                    have HO2 := Lib.hid (hR.next hO)
                    obtain rfl := hA3.1
                    have HR := Lib.hid hR
                    have HO := Lib.hid hO
                    clear hA hA2 hA3 hR hO
                    go_wp2_with fail
                    refine (Slot_o (sr.alloc _) 1 rfl HC.out HO.out (by omega) (by omega) (by unfold maxLen; omega) (rd0 _ _) HR.out).mono ?_
                    rintro e w5 ⟨rfl, s5'⟩
                    have s5 : St w None w5 [BlkR w.heap.size 34 #[.int .i64 p, .int .i64 u, .int .u64 B, .int .u64 P], _] := s5'
                    clear b0 b1 b2 b3
                    obtain ⟨b0, b1, b2, b3⟩ := (s5.blk 0 rfl).four
                    go_wp2_with fail
                    refine (stalls_yes s5 1 rfl HC.out 0 (by show 0 < 1; omega)).mono ?_
                    rintro e w6 ⟨rfl, s6⟩
                    rw [HS.out]
                    go_wp2
                    go_roundw
                    case rel => exact ⟨k + 1, s', 0, hd, sl + 1, by omega, by go_num, rfl, rfl, rfl, HA2.out, HO2.out, by omega, by omega, by omega, s6⟩
                    case measure => simp [intOf]; omega
              · have d1 : decide (hd < B) = false := decide_eq_false g1
                obtain ⟨v, e0, s', hR⟩ := slotR_ex (C1 p u B P) s k (okB 1 f01 (C1 p u B P).n) (wantB 1 f01)
                have hA2 := alone_one hok (by omega) hA hR
                rw [if_neg hmod.out] at hA2
                have hA3 : e0 = 5 ∧ Alone P (k + 1) s' 0 hd (sl + 1) := by
                  rcases hA2 with ⟨h3, h4, _⟩ | ⟨_, h3, h4⟩
                  · omega
                  · exact ⟨h3, h4⟩
                have HS := Lib.hid (hA3.2.st)
                have HA2 := Lib.hid hA3.2
                have HO2 := Lib.hid (hR.next hO)
                obtain rfl := hA3.1
                have HR := Lib.hid hR
                have HO := Lib.hid hO
                clear hA hA2 hA3 hR hO
                go_wp2_with fail
                refine (Slot_o (sr.alloc _) 1 rfl HC.out HO.out (by omega) (by omega) (by unfold maxLen; omega) (rd0 _ _) HR.out).mono ?_
                rintro e w5 ⟨rfl, s5'⟩
                have s5 : St w None w5 [BlkR w.heap.size 34 #[.int .i64 p, .int .i64 u, .int .u64 B, .int .u64 P], _] := s5'
                clear b0 b1 b2 b3
                obtain ⟨b0, b1, b2, b3⟩ := (s5.blk 0 rfl).four
                go_wp2_with fail
                refine (stalls_yes s5 1 rfl HC.out 0 (by show 0 < 1; omega)).mono ?_
                rintro e w6 ⟨rfl, s6⟩
                rw [HS.out]
                go_wp2
                go_roundw
                case rel => exact ⟨k + 1, s', 0, hd, sl + 1, by omega, by go_num, rfl, rfl, rfl, HA2.out, HO2.out, by omega, by omega, by omega, s6⟩
                case measure => simp [intOf]; omega
        · obtain rfl : k = 200 := by omega
          go_wp2
          go_ret
          exact ⟨rfl, sr.below⟩
  · go_wp2_with fail
    refine (rbM_no _ _ _ _ _ hok).mono ?_
    rintro e w2 ⟨rfl, hw2⟩
    have s2 := s1.stay hw2
    clear b0 b1 b2 b3 s1
    haveI : Nonempty (Within (fun wr => St w None wr [BlkR w.heap.size 34 #[.int .i64 p, .int .i64 u, .int .u64 B, .int .u64 P]])) := ⟨⟨_, s2⟩⟩
    have f0 : ∀ x : Within (fun wr => St w None wr [BlkR w.heap.size 34 #[.int .i64 p, .int .i64 u, .int .u64 B, .int .u64 P]]), x.w.cell? ⟨w.heap.size, 0, none⟩ = some (.int .i64 p) := fun x => (x.h.blk 0 rfl).four.1
    have f1 : ∀ x : Within (fun wr => St w None wr [BlkR w.heap.size 34 #[.int .i64 p, .int .i64 u, .int .u64 B, .int .u64 P]]), x.w.cell? ⟨w.heap.size, 1, none⟩ = some (.int .i64 u) := fun x => (x.h.blk 0 rfl).four.2.1
    have f2 : ∀ x : Within (fun wr => St w None wr [BlkR w.heap.size 34 #[.int .i64 p, .int .i64 u, .int .u64 B, .int .u64 P]]), x.w.cell? ⟨w.heap.size, 2, none⟩ = some (.int .u64 B) := fun x => (x.h.blk 0 rfl).four.2.2.1
    have f3 : ∀ x : Within (fun wr => St w None wr [BlkR w.heap.size 34 #[.int .i64 p, .int .i64 u, .int .u64 B, .int .u64 P]]), x.w.cell? ⟨w.heap.size, 3, none⟩ = some (.int .u64 P) := fun x => (x.h.blk 0 rfl).four.2.2.2
    have S2 := Lib.hid s2
    clear s2
    go_wp2_with fail
    refine wp_region_in (fun wr => St w None wr [BlkR w.heap.size 34 #[.int .i64 p, .int .i64 u, .int .u64 B, .int .u64 P]]) (by kernel_rfl) (by kernel_rfl) S2.out.drew ?_
    repeat (go_big_quiet_step ((first
      | (go_at_call 11; exact in_call (p := fun wr => St w None wr [BlkR w.heap.size 34 #[.int .i64 p, .int .i64 u, .int .u64 B, .int .u64 P]]) (looks (bM_no _ _ _ _ _ hok) (Within.h (p := fun wr => St w None wr [BlkR w.heap.size 34 #[.int .i64 p, .int .i64 u, .int .u64 B, .int .u64 P]]) _)))
      | (go_at_call 12; exact in_call (p := fun wr => St w None wr [BlkR w.heap.size 34 #[.int .i64 p, .int .i64 u, .int .u64 B, .int .u64 P]]) (looks (rbM_no _ _ _ _ _ hok) (Within.h (p := fun wr => St w None wr [BlkR w.heap.size 34 #[.int .i64 p, .int .i64 u, .int .u64 B, .int .u64 P]]) _))))))
    refine wpQuiet_nil ?_
    rintro _ ⟨⟨wq, sq⟩, rfl⟩
    go_wp2
    go_ret
    exact ⟨rfl, sq.below⟩

set_option maxRecDepth 100000 in
theorem lifted (os : Os) (started : os.Started) (H : Type) (enc : TypeId × Value → H) :
    ReturnsInHanded {} Try.checked os 5 .any (Rows.busAloneSpec.pre6 enc Try.prog Try.f5 Rows.busAloneRow.domain false) (Rows.busAloneSpec.post enc Try.prog Try.f5 false true false false) := by
  refine law_lifted (C := Try.checked) (tb := 4) own started (by kernel_rfl) Try.func5
    (ChangeSpec.witness6 (enc := enc) (C := Try.checked) false ⟨#[], #[.agg #[.int .i64 0, .int .i64 0, .int .u64 0, .int .u64 0], .slice none 0 0], []⟩ 8 (by kernel_rfl) (by kernel_rfl) (by kernel_rfl) (by kernel_rfl)) laid (by kernel_rfl) (by kernel_rfl) Try.underlying4 rfl ?_
  intro W base args ds ps hval0 hA0 hlt
  have hval : ∀ (j : Nat) t v, Try.f5.params[j]? = some t → args[j]? = some v → Value.okWide Try.prog W .any base t v := hval0
  have hA : DataW.TrodAll enc Try.prog W 0 (fun _ => true) true Try.f5.params.toList args.toList ds ps := hA0
  clear hA0 hval0
  rw [Try.params5] at hA hval
  obtain ⟨v0, vs0, d0, ds0, p0, q0, hargs, rfl, rfl, h0, r0⟩ := trodAll_cons hA
  obtain ⟨v1, vs1, d1, ds1, p1, q1, rfl, rfl, rfl, h1, r1⟩ := trodAll_cons r0
  obtain ⟨rfl, rfl, rfl⟩ := trodAll_nil r1
  obtain rfl : args = #[v0, v1] := by cases args; simp_all
  obtain ⟨cs0, rfl, sz0, ok0⟩ := open_flat (ts := [3, 3, 23, 23]) (Or.inl ⟨_, Try.underlying34⟩) (by kernel_rfl) (by kernel_rfl) (hval 0 34 v0 rfl rfl)
  obtain ⟨c0_0, c0_1, c0_2, c0_3, rfl⟩ := size4 sz0
  obtain ⟨a0_0, rfl, w0_0⟩ := cell_int Try.underlying3 (ok0 0 _ _ rfl rfl)
  obtain ⟨a0_1, rfl, w0_1⟩ := cell_int Try.underlying3 (ok0 1 _ _ rfl rfl)
  obtain ⟨a0_2, rfl, w0_2⟩ := cell_int Try.underlying23 (ok0 2 _ _ rfl rfl)
  obtain ⟨a0_3, rfl, w0_3⟩ := cell_int Try.underlying23 (ok0 3 _ _ rfl rfl)
  obtain ⟨A1, n1, cap1, f1, rfl, le1, mx1, rd1⟩ := open_slice_bools Try.underlying58 Try.underlying4 (by kernel_rfl) (hval 1 58 v1 rfl rfl) h1
  refine ⟨⟨rfl, rfl, rfl⟩, ?_⟩
  exact walk a0_0 a0_1 a0_2 a0_3 A1 n1 cap1 f1 W (by omega) rd1

theorem over : Rows.busAloneRow.holds Try.pinned (OpenSpec.ofChange Rows.busAloneSpec) :=
  OpenClaim.holds_of_wide 5 Try.f5 rfl rfl rfl rfl rfl rfl rfl ⟨rfl, rfl, rfl, rfl, rfl⟩ rfl rfl rfl rfl rfl (by kernel_rfl) Try.func5 (by kernel_rfl)
    (of_decide_eq_true (by kernel_rfl)) (by unfold Func.isWrapper; first | (rw [if_pos (by decide +kernel)]; kernel_rfl) | (rw [if_neg (by decide +kernel)]; exact ⟨rfl, rfl⟩))
    (fun os started H enc _ => lifted os started H enc)
theorem proved : Rows.BusAloneSaid := over
#print axioms proved
end Go.Proofs.Ytabocojmobbpaaa.busAlone
