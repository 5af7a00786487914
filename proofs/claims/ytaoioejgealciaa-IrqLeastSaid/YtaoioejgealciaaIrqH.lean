/- Layer 13: how a line stands, what pends, and what may be. -/
import Derived.Test.YtaoioejgealciaaIrqG
namespace Go.Proofs.Ytaoioejgealciaa
open Go.RowKit
set_option linter.unusedVariables false
set_option maxRecDepth 100000
set_option maxHeartbeats 2000000
section
variable {w0 w w1 w' : World} {S0 S : Nat → Prop} {L X N : List Res} {c n m i : Nat} {now t : Int} {ls : Nat → Ln} {gb bb : Nat → Nat} {R : Nat → Int}
theorem il_13 (h : St w0 S0 w (IL c n m now ls gb bb X)) (hm : m ≤ 16) (hi : i < m) :
    w.cell? ⟨c, i * 13, none⟩ = some (.int .i64 (ls i).C) ∧ w.cell? ⟨c, i * 13 + 1, none⟩ = some (.int .u64 (ls i).H) ∧ w.cell? ⟨c, i * 13 + 2, none⟩ = some (.int .i64 (ls i).D) ∧ w.cell? ⟨c, i * 13 + 3, none⟩ = some (.int .u64 (ls i).E) ∧ w.cell? ⟨c, i * 13 + 4, none⟩ = some (.int .i64 (ls i).St) ∧ w.cell? ⟨c, i * 13 + 5, none⟩ = some (.int .u64 (ls i).Sp) ∧
    w.cell? ⟨c, i * 13 + 6, none⟩ = some (.pointer (some ⟨gb i, 0, none⟩)) ∧ w.cell? ⟨c, i * 13 + 7, none⟩ = some (.pointer (some ⟨bb i, 0, none⟩)) ∧ w.cell? ⟨c, i * 13 + 8, none⟩ = some (.int .i64 (ls i).held) ∧ w.cell? ⟨c, i * 13 + 9, none⟩ = some (.int .i64 (ls i).pends) ∧ w.cell? ⟨c, i * 13 + 10, none⟩ = some (.bool (ls i).masked) ∧ w.cell? ⟨c, i * 13 + 11, none⟩ = some (.int .u64 (ls i).win) ∧ w.cell? ⟨c, i * 13 + 12, none⟩ = some (.int .i64 (ls i).raises) :=
  ⟨il_at h hm hi (f := 0) (by decide), il_at h hm hi (f := 1) (by decide), il_at h hm hi (f := 2) (by decide), il_at h hm hi (f := 3) (by decide), il_at h hm hi (f := 4) (by decide), il_at h hm hi (f := 5) (by decide), il_at h hm hi (f := 6) (by decide), il_at h hm hi (f := 7) (by decide), il_at h hm hi (f := 8) (by decide), il_at h hm hi (f := 9) (by decide), il_at h hm hi (f := 10) (by decide), il_at h hm hi (f := 11) (by decide), il_at h hm hi (f := 12) (by decide)⟩
theorem State_o (H : St w0 S0 w (IL c m m now ls gb bb X)) (hm : m ≤ 16) (hi : i < m) :
    Calls Try.prog 14 #[.pointer (some ⟨c, 0, none⟩), .int .i64 (i : Int)] w fun e w' => e = .returned (.tuple #[.int .i64 (ls i).held, .int .i64 (ls i).pends, .bool (ls i).masked]) ∧ St w0 S0 w' (IL c m m now ls gb bb X) := by
  obtain ⟨c0, c1, c2, c3, c4, c5, c6, c7, c8, c9, c10, c11, c12⟩ := il_13 H hm hi
  have c208 := il_n H
  have i0 : (0 : Int) ≤ (i : Int) := by omega
  have i1 : (i : Int) < 16 := by omega
  have i2 : (i : Int) < (m : Int) := by omega
  have HH := Lib.hid (fun cs => (H.alloc (.cells cs 55)).drew)
  clear H
  go_enter Try.func14, Try.ntmps14
  go_wp2_with (go_in)
  go_region
  go_wp2_with fail
  refine bodyPost_ret (v := .tuple #[.int .i64 (ls i).held, .int .i64 (ls i).pends, .bool (ls i).masked]) ?_ rfl ⟨rfl, HH.out _⟩
  simp [results, go_sem]
/-- The least line of which something pends. -/
def PendP (ls : Nat → Ln) (m : Nat) (a p : Int) (ok : Bool) : Prop :=
  (∃ k : Nat, k < m ∧ a = k ∧ p = (ls k).pends ∧ ok = true ∧ (ls k).masked = false ∧ 0 < (ls k).pends ∧ ∀ j, j < k → ¬ ((ls j).masked = false ∧ 0 < (ls j).pends)) ∨
  (a = 0 ∧ p = 0 ∧ ok = false ∧ ∀ j, j < m → ¬ ((ls j).masked = false ∧ 0 < (ls j).pends))

theorem Pending_o (H : St w0 S0 w (IL c m m now ls gb bb X)) (hm : m ≤ 16) :
    Calls Try.prog 18 #[.pointer (some ⟨c, 0, none⟩)] w fun e w' => ∃ a p ok, e = .returned (.tuple #[.int .i64 a, .int .i64 p, .bool ok]) ∧ PendP ls m a p ok ∧ St w0 S0 w' (IL c m m now ls gb bb X) := by
  have c208 := il_n H
  have c208' := il_n H.drew
  have i0 : (0 : Int) ≤ (m : Int) := by omega
  have i1 : (m : Int) ≤ 16 := by omega
  have HH := Lib.hid H.drew
  clear H
  go_enter Try.func18, Try.ntmps18
  go_wp2_with fail
  go_region
  go_wp2_with fail
  have s0 := HH.out
  clear HH c208 c208'
  go_loopw [16] (fun x wr => ∃ k : Nat, k ≤ m ∧ x = .int .i64 k ∧ (∀ j, j < k → ¬ ((ls j).masked = false ∧ 0 < (ls j).pends)) ∧ St w0 S0 wr (IL c m m now ls gb bb X)) (fun x _ => m - (intOf x).toNat)
  case atStart => exact ⟨0, by omega, rfl, fun j hj => by omega, s0⟩
  case round =>
    clear s0
    obtain ⟨k, hkm, rfl, hno, sr⟩ := hrel
    have HNO := Lib.hid hno
    by_cases hlt : k < m
    · have k0 : (0 : Int) ≤ (k : Int) := by omega
      have k1 : (k : Int) < 16 := by omega
      have k2 : (k : Int) < (m : Int) := by omega
      obtain ⟨c0, c1, c2, c3, c4, c5, c6, c7, c8, c9, c10, c11, c12⟩ := il_13 sr hm hlt
      have SR := Lib.hid (fun cs => sr.alloc (.cells cs 55))
      obtain ⟨pe, hpe⟩ : ∃ pe, (ls k).pends = pe := ⟨_, rfl⟩
      obtain ⟨mk, hmk⟩ : ∃ mk, (ls k).masked = mk := ⟨_, rfl⟩
      have HV := Lib.hid (And.intro hpe hmk)
      rw [hpe] at c9
      rw [hmk] at c10
      clear sr hno hpe hmk
      cases mk with
      | true =>
        go_wp2_with fail
        go_roundw
        case rel => exact ⟨k + 1, by omega, by go_num, fun j hj => by
          by_cases h : j < k
          · exact HNO.out j h
          · obtain rfl : j = k := by omega
            rw [HV.out.2]; exact (fun h => nomatch h.1), SR.out _⟩
        case measure => simp [intOf]; omega
      | false =>
        by_cases hp : 0 < pe
        · have d1 : decide (0 < pe) = true := decide_eq_true hp
          have HP := Lib.hid hp
          clear hp
          go_wp2_with fail
          go_region
          go_wp2_with fail
          refine bodyPost_ret (v := .tuple #[.int .i64 k, .int .i64 pe, .bool true]) ?_ rfl ⟨_, _, _, rfl, Or.inl ⟨k, hlt, rfl, HV.out.1.symm, rfl, HV.out.2, by rw [HV.out.1]; exact HP.out, HNO.out⟩, (SR.out _).drew⟩
          simp [results, go_sem]
        · have d1 : decide (0 < pe) = false := decide_eq_false hp
          have HP := Lib.hid hp
          clear hp
          go_wp2_with fail
          go_roundw
          case rel => exact ⟨k + 1, by omega, by go_num, fun j hj => by
            by_cases h : j < k
            · exact HNO.out j h
            · obtain rfl : j = k := by omega
              rw [HV.out.1]; exact fun h => HP.out h.2, SR.out _⟩
          case measure => simp [intOf]; omega
    · obtain rfl : k = m := by omega
      have SR := Lib.hid sr
      clear sr hno
      go_wp2_with fail
      refine bodyPost_ret (v := .tuple #[.int .i64 0, .int .i64 0, .bool false]) ?_ rfl ⟨_, _, _, rfl, Or.inr ⟨rfl, rfl, rfl, HNO.out⟩, SR.out⟩
      simp [results, go_sem]

theorem rm11_c (C H : Int) (w : World) (b : Bool) (hb : b = decide (1 ≤ C ∧ C ≤ 1000 ∧ H ≤ 1099511627776)) :
    Calls Try.prog 19 #[.int .i64 C, .int .u64 H] w fun e w' => e = .returned (.bool b) ∧ w' = w := by
  by_cases h0 : 1 ≤ C
  case neg =>
    have d0 : decide (1 ≤ C) = false := decide_eq_false h0
    obtain rfl : b = false := by rw [hb]; exact decide_eq_false fun h => h0 h.1
    clear hb
    go_enter Try.func19, Try.ntmps19; go_wp2_with fail; go_ret; exact ⟨rfl, rfl⟩
  have d0 : decide (1 ≤ C) = true := decide_eq_true h0
  by_cases h1 : C ≤ 1000
  case neg =>
    have d1 : decide (C ≤ 1000) = false := decide_eq_false h1
    obtain rfl : b = false := by rw [hb]; exact decide_eq_false fun h => h1 h.2.1
    clear hb
    go_enter Try.func19, Try.ntmps19; go_wp2_with fail; go_ret; exact ⟨rfl, rfl⟩
  have d1 : decide (C ≤ 1000) = true := decide_eq_true h1
  by_cases h2 : H ≤ 1099511627776
  case neg =>
    have d2 : decide (H ≤ 1099511627776) = false := decide_eq_false h2
    obtain rfl : b = false := by rw [hb]; exact decide_eq_false fun h => h2 h.2.2
    clear hb
    go_enter Try.func19, Try.ntmps19; go_wp2_with fail; go_ret; exact ⟨rfl, rfl⟩
  have d2 : decide (H ≤ 1099511627776) = true := decide_eq_true h2
  obtain rfl : b = true := by rw [hb]; exact decide_eq_true ⟨h0, h1, h2⟩
  clear hb
  go_enter Try.func19, Try.ntmps19; go_wp2_with fail; go_ret; exact ⟨rfl, rfl⟩
theorem rm12_c (D E : Int) (w : World) (b : Bool) (hb : b = decide (0 < D ∧ D ≤ 1000 ∧ 0 < E ∧ E ≤ 1099511627776)) :
    Calls Try.prog 20 #[.int .i64 D, .int .u64 E] w fun e w' => e = .returned (.bool b) ∧ w' = w := by
  by_cases h0 : 0 < D
  case neg =>
    have d0 : decide (0 < D) = false := decide_eq_false h0
    obtain rfl : b = false := by rw [hb]; exact decide_eq_false fun h => h0 h.1
    clear hb
    go_enter Try.func20, Try.ntmps20; go_wp2_with fail; go_ret; exact ⟨rfl, rfl⟩
  have d0 : decide (0 < D) = true := decide_eq_true h0
  by_cases h1 : D ≤ 1000
  case neg =>
    have d1 : decide (D ≤ 1000) = false := decide_eq_false h1
    obtain rfl : b = false := by rw [hb]; exact decide_eq_false fun h => h1 h.2.1
    clear hb
    go_enter Try.func20, Try.ntmps20; go_wp2_with fail; go_ret; exact ⟨rfl, rfl⟩
  have d1 : decide (D ≤ 1000) = true := decide_eq_true h1
  by_cases h2 : 0 < E
  case neg =>
    have d2 : decide (0 < E) = false := decide_eq_false h2
    obtain rfl : b = false := by rw [hb]; exact decide_eq_false fun h => h2 h.2.2.1
    clear hb
    go_enter Try.func20, Try.ntmps20; go_wp2_with fail; go_ret; exact ⟨rfl, rfl⟩
  have d2 : decide (0 < E) = true := decide_eq_true h2
  by_cases h3 : E ≤ 1099511627776
  case neg =>
    have d3 : decide (E ≤ 1099511627776) = false := decide_eq_false h3
    obtain rfl : b = false := by rw [hb]; exact decide_eq_false fun h => h3 h.2.2.2
    clear hb
    go_enter Try.func20, Try.ntmps20; go_wp2_with fail; go_ret; exact ⟨rfl, rfl⟩
  have d3 : decide (E ≤ 1099511627776) = true := decide_eq_true h3
  obtain rfl : b = true := by rw [hb]; exact decide_eq_true ⟨h0, h1, h2, h3⟩
  clear hb
  go_enter Try.func20, Try.ntmps20; go_wp2_with fail; go_ret; exact ⟨rfl, rfl⟩
instance (C H D E Sm Sp : Int) : Decidable (mayL C H D E Sm Sp) := by unfold mayL; infer_instance
theorem rmay_c (C H D E Sm Sp : Int) (w : World) (b : Bool) (hb : b = decide (mayL C H D E Sm Sp)) (hH : 0 ≤ H) :
    Calls Try.prog 9 #[.agg #[.int .i64 C, .int .u64 H, .int .i64 D, .int .u64 E, .int .i64 Sm, .int .u64 Sp]] w fun e w' => e = .returned (.bool b) ∧ Below w.heap.size w w' := by
  have BB := Lib.hid ((St.begin w).alloc (.cells #[.int .i64 C, .int .u64 H, .int .i64 D, .int .u64 E, .int .i64 Sm, .int .u64 Sp] 24)).below
  by_cases h0 : 1 ≤ C ∧ C ≤ 1000 ∧ H ≤ 1099511627776
  case neg =>
    have M1 := Lib.hid (fun w => rm11_c C H w false (decide_eq_false h0).symm)
    obtain rfl : b = false := by rw [hb]; exact decide_eq_false fun h => h0 ⟨h.1.1, h.1.2.1, h.1.2.2.2⟩
    clear hb
    clear h0
    go_enter Try.func9, Try.ntmps9; go_wp2_with (first | (go_at_call 19; refine (M1.out _).mono ?_; rintro e w' ⟨rfl, rfl⟩) | (go_at_call 20; refine (M2.out _).mono ?_; rintro e w' ⟨rfl, rfl⟩)); go_ret; exact ⟨rfl, BB.out⟩
  have M1 := Lib.hid (fun w => rm11_c C H w true (decide_eq_true h0).symm)
  by_cases h1 : 0 < D ∧ D ≤ 1000 ∧ 0 < E ∧ E ≤ 1099511627776
  case neg =>
    have M2 := Lib.hid (fun w => rm12_c D E w false (decide_eq_false h1).symm)
    obtain rfl : b = false := by rw [hb]; exact decide_eq_false fun h => h1 ⟨by have := h.2.1.1; omega, h.2.1.2.1, by have := h.2.1.2.2.1; omega, h.2.1.2.2.2⟩
    clear hb
    clear h0
    clear h1
    go_enter Try.func9, Try.ntmps9; go_wp2_with (first | (go_at_call 19; refine (M1.out _).mono ?_; rintro e w' ⟨rfl, rfl⟩) | (go_at_call 20; refine (M2.out _).mono ?_; rintro e w' ⟨rfl, rfl⟩)); go_ret; exact ⟨rfl, BB.out⟩
  have M2 := Lib.hid (fun w => rm12_c D E w true (decide_eq_true h1).symm)
  by_cases h2 : 1 ≤ Sm
  case neg =>
    have d2 : decide (1 ≤ Sm) = false := decide_eq_false h2
    obtain rfl : b = false := by rw [hb]; exact decide_eq_false fun h => h2 h.2.2.1.1
    clear hb
    clear h0
    clear h1
    go_enter Try.func9, Try.ntmps9; go_wp2_with (first | (go_at_call 19; refine (M1.out _).mono ?_; rintro e w' ⟨rfl, rfl⟩) | (go_at_call 20; refine (M2.out _).mono ?_; rintro e w' ⟨rfl, rfl⟩)); go_ret; exact ⟨rfl, BB.out⟩
  have d2 : decide (1 ≤ Sm) = true := decide_eq_true h2
  by_cases h3 : Sm ≤ 10000
  case neg =>
    have d3 : decide (Sm ≤ 10000) = false := decide_eq_false h3
    obtain rfl : b = false := by rw [hb]; exact decide_eq_false fun h => h3 h.2.2.1.2
    clear hb
    clear h0
    clear h1
    go_enter Try.func9, Try.ntmps9; go_wp2_with (first | (go_at_call 19; refine (M1.out _).mono ?_; rintro e w' ⟨rfl, rfl⟩) | (go_at_call 20; refine (M2.out _).mono ?_; rintro e w' ⟨rfl, rfl⟩)); go_ret; exact ⟨rfl, BB.out⟩
  have d3 : decide (Sm ≤ 10000) = true := decide_eq_true h3
  by_cases h4 : 1 ≤ Sp
  case neg =>
    have d4 : decide (1 ≤ Sp) = false := decide_eq_false h4
    obtain rfl : b = false := by rw [hb]; exact decide_eq_false fun h => h4 h.2.2.2.1
    clear hb
    clear h0
    clear h1
    go_enter Try.func9, Try.ntmps9; go_wp2_with (first | (go_at_call 19; refine (M1.out _).mono ?_; rintro e w' ⟨rfl, rfl⟩) | (go_at_call 20; refine (M2.out _).mono ?_; rintro e w' ⟨rfl, rfl⟩)); go_ret; exact ⟨rfl, BB.out⟩
  have d4 : decide (1 ≤ Sp) = true := decide_eq_true h4
  by_cases h5 : Sp ≤ 1099511627776
  case neg =>
    have d5 : decide (Sp ≤ 1099511627776) = false := decide_eq_false h5
    obtain rfl : b = false := by rw [hb]; exact decide_eq_false fun h => h5 h.2.2.2.2
    clear hb
    clear h0
    clear h1
    go_enter Try.func9, Try.ntmps9; go_wp2_with (first | (go_at_call 19; refine (M1.out _).mono ?_; rintro e w' ⟨rfl, rfl⟩) | (go_at_call 20; refine (M2.out _).mono ?_; rintro e w' ⟨rfl, rfl⟩)); go_ret; exact ⟨rfl, BB.out⟩
  have d5 : decide (Sp ≤ 1099511627776) = true := decide_eq_true h5
  obtain rfl : b = true := by rw [hb]; exact decide_eq_true ⟨⟨h0.1, h0.2.1, hH, h0.2.2⟩, ⟨by omega, h1.2.1, by omega, h1.2.2.2⟩, ⟨h2, h3⟩, h4, h5⟩
  clear hb h0 h1
  go_enter Try.func9, Try.ntmps9; go_wp2_with (first | (go_at_call 19; refine (M1.out _).mono ?_; rintro e w' ⟨rfl, rfl⟩) | (go_at_call 20; refine (M2.out _).mono ?_; rintro e w' ⟨rfl, rfl⟩)); go_ret; exact ⟨rfl, BB.out⟩
theorem bnew_o (Hs : St w0 S0 w L) {d e : Int} (h : 1 ≤ d ∧ d ≤ 1000 ∧ 1 ≤ e ∧ e ≤ 1099511627776) :
    Calls Try.prog 23 #[.int .i64 d, .int .u64 e] w fun r w' => ∃ b, r = .returned (.tuple #[.pointer (some ⟨b, 0, none⟩), .int .i64 0]) ∧ St w0 S0 w' (L ++ [BlkR b 75 #[.int .u64 d, .int .u64 e, .int .u64 0, .int .u64 d]]) :=
  (bu.new_ok d e w h).mono fun r w' ⟨he, hb, hz, hw⟩ => ⟨_, he, Hs.more hw (Star.one (BlkR.ok _ _ _) ⟨hb, fun c => Iff.rfl⟩) fun c hc => by have hc : c = w.heap.size := hc; omega⟩
theorem Blk.six {w : World} {g : Nat} {t : TypeId} {x y z u v q : Value} (h : Blk w g t #[x, y, z, u, v, q]) : w.cell? ⟨g, 0, none⟩ = some x ∧ w.cell? ⟨g, 1, none⟩ = some y ∧ w.cell? ⟨g, 2, none⟩ = some z ∧ w.cell? ⟨g, 3, none⟩ = some u ∧ w.cell? ⟨g, 4, none⟩ = some v ∧ w.cell? ⟨g, 5, none⟩ = some q :=
  ⟨by have := Blk.cell h 0; simpa using this, by have := Blk.cell h 1; simpa using this, by have := Blk.cell h 2; simpa using this, by have := Blk.cell h 3; simpa using this, by have := Blk.cell h 4; simpa using this, by have := Blk.cell h 5; simpa using this⟩
theorem imay_yes (C H D E Sm Sp : Int) (w : World) (h : mayL C H D E Sm Sp) :
    Calls Try.prog 21 #[.agg #[.int .i64 C, .int .u64 H, .int .i64 D, .int .u64 E, .int .i64 Sm, .int .u64 Sp]] w fun e w' => e = .returned (.bool true) ∧ Below w.heap.size w w' := by
  have s1 := (St.begin w).box 24 #[.int .i64 C, .int .u64 H, .int .i64 D, .int .u64 E, .int .i64 Sm, .int .u64 Sp]
  have NG := Lib.hid (gat_new s1 h.1)
  have h2 := h.2.1
  obtain ⟨⟨g1, g2⟩, g3, g4⟩ := h.2.2
  have d1 : decide (1 ≤ Sm) = true := decide_eq_true g1
  have d2 : decide (Sm ≤ 10000) = true := decide_eq_true g2
  have d3 : decide (1 ≤ Sp) = true := decide_eq_true g3
  have d4 : decide (Sp ≤ 1099511627776) = true := decide_eq_true g4
  clear s1 h
  go_enter Try.func21, Try.ntmps21
  go_wp2_with fail
  refine NG.out.mono ?_
  rintro e w2 ⟨gb, rfl, s2⟩
  have x2 : St w None w2 [BlkR w.heap.size 24 #[.int .i64 C, .int .u64 H, .int .i64 D, .int .u64 E, .int .i64 Sm, .int .u64 Sp], GatR gb C H 0 []] := s2
  obtain ⟨a0, a1, a2, a3, a4, a5⟩ := (x2.blk 0 rfl).six
  have NB := Lib.hid (bnew_o x2 h2)
  clear s2 x2 NG
  go_wp2_with fail
  refine NB.out.mono ?_
  rintro e w3 ⟨bb, rfl, s3⟩
  have x3 : St w None w3 [BlkR w.heap.size 24 #[.int .i64 C, .int .u64 H, .int .i64 D, .int .u64 E, .int .i64 Sm, .int .u64 Sp], GatR gb C H 0 [], BlkR bb 75 #[.int .u64 D, .int .u64 E, .int .u64 0, .int .u64 D]] := s3
  obtain ⟨b0, b1, b2, b3, b4, b5⟩ := (x3.blk 0 rfl).six
  have X3 := Lib.hid x3.below
  clear s3 x3 NB a0 a1 a2 a3 a4 a5
  go_wp2_with fail
  go_ret
  exact ⟨rfl, X3.out⟩
end
end Go.Proofs.Ytaoioejgealciaa
