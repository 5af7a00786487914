/-
  For every list of 8-bit numbers and every list of truths IrqLeast answers true, and changes nothing: of lines of which something pends the least that is not masked is told, until nothing pends; what is acknowledged is what was raised. No condition.
-/
import Derived.Test.YtaoioejgealciaaRows
import Derived.Test.YtaoioejgealciaaFr
import Derived.Test.YtaoioejgealciaaIrqP
namespace Go.Proofs.Ytaoioejgealciaa.irqLeast
open Go.ChangeShapes Go.WideShapes Go.ChangeAt Go.RowKit
set_option linter.unusedVariables false
theorem own : ownKnob Try.prog.godebug = none := by kernel_rfl
theorem laid : laidOutB Try.prog = true := by kernel_rfl
set_option maxRecDepth 100000
set_option maxHeartbeats 1000000
theorem YtaoioejgealciaaiI : (Try.prog.info? 3).map (fun i => (i.zero, i.size, i.bytes)) = some (some (.int .i64 0), 1, 8) := by kernel_rfl
theorem YtaoioejgealciaaiK : (Try.prog.info? 24).map (fun i => (i.zero, i.size, i.bytes)) = some (some (.agg #[.int .i64 0, .int .u64 0, .int .i64 0, .int .u64 0, .int .i64 0, .int .u64 0]), 6, 48) := by kernel_rfl
def c6 : List Value := [.int .i64 1, .int .u64 0, .int .i64 100, .int .u64 10, .int .i64 1000, .int .u64 100]
def lv : Nat → List Value
  | 0 => []
  | k + 1 => lv k ++ c6
theorem lv_len : ∀ k, (lv k).length = k * 6
  | 0 => rfl
  | k + 1 => by show (lv k ++ c6).length = _; rw [List.length_append, lv_len k]; show k * 6 + 6 = _; omega
theorem lv_at : ∀ (k j i : Nat), j < k → i < 6 → (lv k)[j * 6 + i]? = c6[i]?
  | 0, j, i, hj, hi => absurd hj (Nat.not_lt_zero j)
  | k + 1, j, i, hj, hi => by
    show (lv k ++ c6)[j * 6 + i]? = _
    by_cases e : j < k
    · rw [List.getElem?_append_left (by rw [lv_len]; omega)]; exact lv_at k j i e hi
    · obtain rfl : j = k := by omega
      rw [List.getElem?_append_right (by rw [lv_len]; omega), lv_len]
      congr 1
      omega
theorem cell_lt {w : World} {b k : Nat} {v : Value} (h : w.cell? ⟨b, k, none⟩ = some v) : b < w.heap.size := by
  apply Nat.lt_of_not_le
  intro hn
  unfold World.cell? at h
  have : w.heap[b]? = none := by simp [hn]
  simp [this] at h
theorem list_rdm {w0 w : World} {S0 : Nat → Prop} {L : List Res} {i k : Nat} {A : Option Addr} {cap : Nat} (h : St w0 S0 w L) (hi : L[i]? = some (LisR 24 6 (.slice A k cap) k (lv k))) : RdM w A k 6 (fun _ q => c6.getD q undef) := fun h0 => by
  obtain ⟨A', cap', e, h1, h2, h3, h4⟩ := h.lis_cells i hi
  injection e with e1 _ e2
  subst e1 e2
  rcases h4 with h4 | ⟨g, off, rfl, hc⟩
  · omega
  · have hx : ∀ j, j < k → ∀ q, q < 6 → w.cell? ⟨g, off + (j * 6 + q), none⟩ = some (c6.getD q undef) := fun j hj q hq => by
      refine hc _ _ ?_
      rw [lv_at k j q hj hq, List.getD_eq_getElem?_getD, List.getElem?_eq_getElem (show q < c6.length from hq)]
      rfl
    exact ⟨g, off, rfl, cell_lt (hx 0 h0 0 (by omega)), hx⟩
theorem rds_box6 (w : World) (e : TypeId) (u0 u1 u2 u3 u4 u5 : Value) : Rds (w.alloc (.cells #[u0, u1, u2, u3, u4, u5] e)) (some ⟨w.heap.size, 0, none⟩) 1 6 [u0, u1, u2, u3, u4, u5] :=
  ⟨rfl, Or.inr ⟨_, _, rfl, fun j x hx => by
    rw [(Blk.new w e #[u0, u1, u2, u3, u4, u5]).cell]; simpa using hx⟩⟩
theorem rall_c (A : Option Addr) (cap : Nat) (w : World) (rd : RdM w A 16 6 (fun _ q => c6.getD q undef)) :
    Calls Try.prog 17 #[.slice A 16 cap] w fun e w' => e = .returned (.bool true) ∧ Below w.heap.size w w' := by
  have RD := Lib.hid rd
  have RM := Lib.hid (fun w => rmay_c 1 0 100 10 1000 100 w true (decide_eq_true (show mayL 1 0 100 10 1000 100 by unfold mayL; omega)).symm (by omega))
  clear rd
  go_enter Try.func17, Try.ntmps17
  go_wp2_with fail
  have s0 := St.begin w
  go_loopw [3] (fun x wr => ∃ k : Nat, k ≤ 16 ∧ x = .int .i64 k ∧ St w None wr []) (fun x _ => 16 - (intOf x).toNat)
  case atStart => exact ⟨0, by omega, rfl, s0⟩
  case round =>
    clear s0
    obtain ⟨k, hk, rfl, sr⟩ := hrel
    by_cases hlt : k < 16
    · obtain ⟨ib, off, rfl, hc⟩ := RD.out.at_ sr.below hlt
      have e0 := hc 0 (by omega)
      have e1 := hc 1 (by omega)
      have e2 := hc 2 (by omega)
      have e3 := hc 3 (by omega)
      have e4 := hc 4 (by omega)
      have e5 := hc 5 (by omega)
      rw [Nat.add_zero] at e0
      simp only [c6, List.getD_cons_zero, List.getD_cons_succ] at e0 e1 e2 e3 e4 e5
      have k0 : (0 : Int) ≤ (k : Int) := by omega
      have k1 : (k : Int) < 16 := by omega
      have SR := Lib.hid sr
      clear sr hc
      go_wp2_with fail
      refine (RM.out _).mono ?_
      rintro e w2 ⟨rfl, hb2⟩
      have S2 := Lib.hid (SR.out.stay hb2)
      clear hb2 e0 e1 e2 e3 e4 e5
      go_wp2_with fail
      go_roundw
      case rel => exact ⟨k + 1, by omega, by go_num, S2.out⟩
      case measure => simp [intOf]; omega
    · obtain rfl : k = 16 := by omega
      have SR := Lib.hid sr.below
      clear sr
      go_wp2_with fail
      go_ret
      exact ⟨rfl, SR.out⟩
theorem New16_o {w0 w : World} {S0 : Nat → Prop} {X : List Res} (Hs : St w0 S0 w X) (A : Option Addr) (cap : Nat) (rd : RdM w A 16 6 (fun _ q => c6.getD q undef)) :
    Calls Try.prog 10 #[.slice A 16 cap] w fun e w' => ∃ c gb bb, e = .returned (.tuple #[.pointer (some ⟨c, 0, none⟩), .int .i64 0]) ∧ St w0 S0 w' (IL c 16 16 0 (fun _ => Ln.new 1 0 100 10 1000 100) gb bb X) := by
  let cf : Nat → Nat → Int := fun _ q => match q with | 0 => 1 | 1 => 0 | 2 => 100 | 3 => 10 | 4 => 1000 | _ => 100
  refine (New_c (n := 16) A cap _ rd cf (fun k hk => ⟨rfl, rfl, rfl, rfl, rfl, rfl⟩) (fun k hk => by show mayL 1 0 100 10 1000 100; unfold mayL; omega) (by omega) (by omega)).mono ?_
  rintro e w' ⟨c, gb, bb, he, s⟩
  refine ⟨c, gb, bb, he, ?_⟩
  have j := (Hs.join s).comm
  rw [il_app] at j
  exact j
theorem upd_cells (W : Nat → Int) (k : Nat) (x : Int) : (fun j => if j = k then Value.int .i64 x else Value.int .i64 (W j)) = fun j => Value.int .i64 (updL W k x j) := by funext j; unfold updL; split <;> rfl
/-- What the cells of an array come to. -/
def cellN (v : Option Value) : Nat := match v with | some (.int _ x) => x.toNat | _ => 0
def mz (a n : Nat) (w : World) : Nat := ((List.range n).map fun j => cellN (w.cell? ⟨a, j, none⟩)).sum
def sw (W : Nat → Int) (n : Nat) : Nat := ((List.range n).map fun j => (W j).toNat).sum
theorem sw_succ (W : Nat → Int) (n : Nat) : sw W (n + 1) = sw W n + (W n).toNat := by unfold sw; rw [List.range_succ, List.map_append, List.sum_append]; simp
theorem sw_upd (W : Nat → Int) (k : Nat) (x : Int) (h0 : 0 < x) (h1 : x ≤ W k) : ∀ n, (k < n → sw (updL W k (W k - x)) n < sw W n) ∧ (n ≤ k → sw (updL W k (W k - x)) n = sw W n)
  | 0 => ⟨fun h => absurd h (Nat.not_lt_zero k), fun _ => rfl⟩
  | n + 1 => by
    obtain ⟨a, b⟩ := sw_upd W k x h0 h1 n
    rw [sw_succ, sw_succ]
    by_cases e : n = k
    · subst e
      have := b (Nat.le_refl _)
      rw [updL_same]
      exact ⟨fun _ => by omega, fun h => by omega⟩
    · rw [show updL W k (W k - x) n = W n by unfold updL; rw [if_neg e]]
      exact ⟨fun h => by have := a (by omega); omega, fun h => by have := b (by omega); omega⟩
theorem mz_is {w0 w : World} {S0 : Nat → Prop} {L : List Res} {a i : Nat} {e : TypeId} {W : Nat → Int} (h : St w0 S0 w L) (hi : L[i]? = some (ArrR a e 16 (fun j => .int .i64 (W j)))) : mz a 16 w = sw W 16 := by
  unfold mz sw
  congr 1
  refine List.map_congr_left fun j hj => ?_
  rw [h.arr_cell i hi (List.mem_range.1 hj)]
  rfl
theorem mask_next (g : Nat → Bool) (i : Nat) : updL (fun j => decide (j < i) && g j) i (g i) = fun j => decide (j < i + 1) && g j := by
  funext j
  unfold updL
  by_cases e : j = i
  · subst e; simp
  · rw [if_neg e]
    have : decide (j < i) = decide (j < i + 1) := by simp only [decide_eq_decide]; omega
    show (decide (j < i) && g j) = _
    rw [this]
theorem mask_none (g : Nat → Bool) : (fun j => decide (j < 0) && g j) = fun _ => false := by funext j; simp
theorem fl_new : FL 0 (fun _ => 0) (fun _ => 0) (fun _ => false) (fun _ => Ln.new 1 0 100 10 1000 100) := fun j hj => ⟨Ln.new_ok (by unfold mayL; omega), Lt.new, by show (0 : Int) ≤ 60; omega⟩
theorem fl_oks {now : Int} {W Rk : Nat → Int} {M : Nat → Bool} {ls : Nat → Ln} (h : FL now W Rk M ls) : ∀ j, j < 16 → (ls j).ok now (Rk j) := fun j hj => (h j hj).1
theorem st_put {w0 w : World} {S0 : Nat → Prop} {c a k : Nat} {now : Int} {ls : Nat → Ln} {gb bb : Nat → Nat} {R1 : Res} {e : TypeId} {W : Nat → Int} (h : St w0 S0 w (IL c 16 16 now ls gb bb [R1, ArrR a e 16 (fun j => .int .i64 (W j))])) (hk : k < 16) (x : Int) :
    St w0 S0 (w.setCell ⟨a, k, none⟩ (.int .i64 x)) (IL c 16 16 now ls gb bb [R1, ArrR a e 16 (fun j => .int .i64 (updL W k x j))]) := by
  have h2 := h.arr_set (1 + 16 + 16 + 1) (il_x rfl) hk (.int .i64 x)
  rw [il_xset (by simp)] at h2
  rw [← upd_cells]
  exact h2
theorem walk (A : Option Addr) (n capA : Nat) (f : Nat → Int) (B : Option Addr) (m capB : Nat) (g : Nat → Bool) (w : World) (rdA : Rd w A n (fun i => .int .u8 (f i))) (hf : ∀ i, 0 ≤ f i ∧ f i ≤ 255) (rdB : Rd w B m (fun i => .bool (g i))) :
    Calls Try.prog 5 #[.slice A n capA, .slice B m capB] w fun r w' => r = .returned (.bool true) ∧ Below w.heap.size w w' := by
  by_cases hn : 60 < (n : Int)
  case pos =>
    have dn : decide (60 < (n : Int)) = true := decide_eq_true hn
    have dn2 : decide (60 < n) = true := decide_eq_true (by omega)
    clear hn
    go_enter Try.func5, Try.ntmps5
    go_wp2_with fail
    refine (awake_c _).mono ?_
    rintro e w1 ⟨rfl, hb1⟩
    have s1 := (St.begin w).stay hb1
    clear hb1
    have S2 := Lib.hid s1.below
    clear s1
    go_wp2_with fail
    go_ret
    exact ⟨rfl, S2.out⟩
  have dn : decide (60 < (n : Int)) = false := decide_eq_false hn
  have dn2 : decide (60 < n) = false := decide_eq_false (by omega)
  by_cases hm : 16 < (m : Int)
  case pos =>
    have dm : decide (16 < (m : Int)) = true := decide_eq_true hm
    have dm2 : decide (16 < m) = true := decide_eq_true (by omega)
    clear hm
    go_enter Try.func5, Try.ntmps5
    go_wp2_with fail
    refine (awake_c _).mono ?_
    rintro e w1 ⟨rfl, hb1⟩
    have s1 := (St.begin w).stay hb1
    clear hb1
    have S2 := Lib.hid s1.below
    clear s1
    go_wp2_with fail
    go_ret
    exact ⟨rfl, S2.out⟩
  have dm : decide (16 < (m : Int)) = false := decide_eq_false hm
  have dm2 : decide (16 < m) = false := decide_eq_false (by omega)
  have hn' : n ≤ 60 := by omega
  have hm' : m ≤ 16 := by omega
  clear hn hm
  have mk : ∀ W : World, (Instr.makeSlice 47 (.int .i64 16) (.int .i64 16)).run Try.prog W = .ok (.slice (some ⟨W.heap.size, 0, none⟩) 16 16) (W.alloc (.cells (madeCells #[.int .i64 0] 16) 3)) := by
    obtain ⟨i0, hi, hz0, hz1, hz2⟩ := info_parts YtaoioejgealciaaiI
    intro W
    exact run_make_rowN (P := Try.prog) 47 3 i0 (.int .i64 0) Try.underlying47 hi hz0 rfl hz1 .i64 .i64 16 (by rw [hz2]; omega) (by omega) W
  obtain ⟨iK, hiK, hzK, hsK, hbK⟩ := info_parts YtaoioejgealciaaiK
  go_enter Try.func5, Try.ntmps5
  go_wp2_with fail
  refine (awake_c _).mono ?_
  rintro e w1 ⟨rfl, hb1⟩
  have s1 := (St.begin w).stay hb1
  clear hb1
  go_wp2_with fail
  have s2 : St w None w1 [LisR 24 6 (.slice none 0 0) 0 (lv 0)] := s1.lis_nil 24 6
  go_loopw [5, 6] (fun x5 x6 wr => ∃ (k : Nat) (C : Option Addr) (cc : Nat), k ≤ 16 ∧ x5 = .slice C k cc ∧ x6 = .int .i64 k ∧ St w None wr [LisR 24 6 (.slice C k cc) k (lv k)]) (fun _ x _ => 16 - (intOf x).toNat)
  case atStart => exact ⟨0, none, 0, by omega, rfl, rfl, s2⟩
  case round =>
    clear s2 s1
    obtain ⟨k, C, cc, hk, rfl, rfl, sr⟩ := hrel
    by_cases hlt : k < 16
    · have d1 : decide ((k : Int) < 16) = true := decide_eq_true (by omega)
      have d2 : decide (k < 16) = true := decide_eq_true (by omega)
      have s3 := sr.alloc (.cells #[.int .i64 1, .int .u64 0, .int .i64 100, .int .u64 10, .int .i64 1000, .int .u64 100] 24)
      have hl3 := s3.lis 0 rfl
      have hr3 : Rds (wr.alloc (.cells #[.int .i64 1, .int .u64 0, .int .i64 100, .int .u64 10, .int .i64 1000, .int .u64 100] 24)) (some ⟨wr.heap.size, 0, none⟩) 1 6 c6 := rds_box6 wr 24 _ _ _ _ _ _
      clear sr
      go_wp2_with (at_builtin; refine wpList_lis rfl (.tmp 34) (.tmp 36) 33 rfl 24 iK (.agg #[.int .i64 0, .int .u64 0, .int .i64 0, .int .u64 0, .int .i64 0, .int .u64 0]) 6 48 Try.underlying33 hiK hzK hsK hbK rfl (by decide) _ _ _ rfl hl3 (some ⟨wr.heap.size, 0, none⟩) 1 1 c6 rfl hr3 (by simp [c6, Value.oneCell']) (by unfold maxLen; omega) (by omega) ?_; intro B9 cp9 w9 hl9 hg9 hat9; have s9 := s3.lis_put 0 rfl hl9 hg9 hat9; clear hl9 hg9 hat9)
      go_roundw
      case rel => exact ⟨k + 1, B9, cp9, by omega, rfl, by go_num, s9⟩
      case measure => simp [intOf]; omega
    obtain rfl : k = 16 := by omega
    have N0 := Lib.hid (New16_o sr C cc (list_rdm (i := 0) sr rfl))
    clear sr
    go_wp2_with fail
    refine N0.out.mono ?_
    rintro e w3 ⟨c, gb, bb, rfl, s3⟩
    have RA := Lib.hid (rall_c C cc w3 (list_rdm s3 (il_x (k := 0) rfl)))
    have S3 := Lib.hid s3
    clear s3 N0
    go_wp2_with (go_at_call 17; refine RA.out.mono ?_; rintro e w4 ⟨rfl, hb4⟩; have s4 := S3.out.stay hb4; obtain ⟨wa, hwa⟩ : ∃ wa, w4.heap.size = wa := ⟨_, rfl⟩; have s5 := s4.made_row 3 16 (.int .i64 0); rw [il_app, hwa] at s5; have S5 := Lib.hid s5; clear hb4 s4 s5)
    have s5 := S5.out
    clear S3 RA mk
    go_loopw [10] (fun x wr => ∃ (i : Nat) (W Rk : Nat → Int) (now : Int) (ls : Nat → Ln) (gb : Nat → Nat), i ≤ n ∧ x = .int .i64 i ∧ St w None wr (IL c 16 16 now ls gb bb [LisR 24 6 (.slice C 16 cc) 16 (lv 16), ArrR wa 3 16 (fun j => .int .i64 (W j))]) ∧ FL now W Rk (fun _ => false) ls ∧ 0 ≤ now ∧ now ≤ 1 ∧ (∀ j, Rk j ≤ i) ∧ (∀ j, 0 ≤ W j ∧ W j ≤ i)) (fun x _ => n - (intOf x).toNat)
    case atStart => exact ⟨0, fun _ => 0, fun _ => 0, 0, _, gb, by omega, rfl, s5, fl_new, by omega, by omega, fun j => Int.le_refl _, fun j => ⟨Int.le_refl _, Int.le_refl _⟩⟩
    case round =>
      clear s5 S5
      obtain ⟨i, W, Rk, now, ls, gb2, hi, rfl, sr, hfl, h0, h1, hR, hW⟩ := hrel
      by_cases hlt : i < n
      · have d1 : decide ((i : Int) < (n : Int)) = true := decide_eq_true (by omega)
        have d2 : decide (i < n) = true := decide_eq_true hlt
        obtain ⟨sb, off, rfl, hsb, hcell⟩ := rdA (by omega)
        have hy : wr.cell? ⟨sb, off + i, none⟩ = some (.int .u8 (f i)) := (sr.cell (p := ⟨sb, off + i, none⟩) hsb id).trans (hcell _ hlt)
        have fi := hf i
        obtain ⟨kk, hkk⟩ : ∃ kk : Nat, Int.tmod (f i) 16 = (kk : Int) := ⟨(f i % 16).toNat, by rw [Int.tmod_eq_emod_of_nonneg fi.1]; omega⟩
        have ek : f i % 16 = (kk : Int) := by rw [← hkk, Int.tmod_eq_emod_of_nonneg fi.1]
        have hk16 : kk < 16 := by omega
        have k0 : (0 : Int) ≤ (kk : Int) := by omega
        have k1 : (kk : Int) < 16 := by omega
        have i0 : (0 : Int) ≤ (i : Int) := by omega
        have rk := hR kk
        have wk := hW kk
        have HF := Lib.hid (hfl.raise h0 h1 hk16 rfl (by omega))
        have C1 := Lib.hid (Raise_o (R := Rk) (i := kk) (t := 1) sr (by omega) hk16 (fl_oks hfl) h0 h1 (by omega) (by omega))
        have HR := Lib.hid hR
        have HW := Lib.hid hW
        clear sr hfl hcell hR hW
        go_wp2_with fail
        refine C1.out.mono ?_
        rintro e w6 ⟨rfl, g6, s6⟩
        have a6 := s6.arr_cell (1 + 16 + 16 + 1) (il_x rfl) hk16
        have f6 := s6.arr_frozen (1 + 16 + 16 + 1) (il_x rfl) kk
        have S7 := Lib.hid (st_put s6 hk16 (W kk + 1))
        obtain ⟨x, hx⟩ : ∃ x, W kk = x := ⟨_, rfl⟩
        rw [hx] at wk HF S7 a6
        clear s6 C1 hy hsb
        go_wp2_with fail
        go_roundw
        case rel =>
          refine ⟨i + 1, _, _, 1, _, g6, by omega, by go_num, S7.out, HF.out, by omega, by omega, fun j => ?_, fun j => ?_⟩
          · have := HR.out j
            unfold updL; split <;> omega
          · have := HW.out j
            unfold updL; split <;> omega
        case measure => simp [intOf]; omega
      obtain rfl : i = n := by omega
      have d1 : decide ((i : Int) < (i : Int)) = false := decide_eq_false (by omega)
      have HW := Lib.hid hW
      have hfl' : FL now W Rk (fun j => decide (j < 0) && g j) ls := by rw [mask_none]; exact hfl
      have S5 := Lib.hid sr
      have HF := Lib.hid hfl'
      clear sr hfl hR hW hfl'
      go_wp2_with fail
      have s5 := S5.out
      go_loopw [12] (fun x wr => ∃ (q : Nat) (now : Int) (ls : Nat → Ln), q ≤ m ∧ x = .int .i64 q ∧ St w None wr (IL c 16 16 now ls gb2 bb [LisR 24 6 (.slice C 16 cc) 16 (lv 16), ArrR wa 3 16 (fun j => .int .i64 (W j))]) ∧ FL now W Rk (fun j => decide (j < q) && g j) ls ∧ 0 ≤ now ∧ now ≤ 1) (fun x _ => m - (intOf x).toNat)
      case atStart => exact ⟨0, now, ls, by omega, rfl, s5, HF.out, h0, h1⟩
      case round =>
        clear s5 S5 HF
        obtain ⟨q, now, ls, hq, rfl, sr, hfl, h0, h1⟩ := hrel
        by_cases hlt : q < m
        · have d1 : decide ((q : Int) < (m : Int)) = true := decide_eq_true (by omega)
          have d2 : decide (q < m) = true := decide_eq_true hlt
          obtain ⟨sb, off, rfl, hsb, hcell⟩ := rdB (by omega)
          have hy : wr.cell? ⟨sb, off + q, none⟩ = some (.bool (g q)) := (sr.cell (p := ⟨sb, off + q, none⟩) hsb id).trans (hcell _ hlt)
          have q0 : (0 : Int) ≤ (q : Int) := by omega
          have HF := Lib.hid (hfl.mask h0 h1 (show q < 16 by omega) (g q))
          rw [mask_next] at HF
          have C1 := Lib.hid (Mask_o (R := Rk) (i := q) (t := 1) (g q) sr (by omega) (by omega) (fl_oks hfl) h0 h1 (by omega))
          clear sr hfl hcell
          go_wp2_with fail
          refine C1.out.mono ?_
          rintro e w6 ⟨rfl, s6⟩
          have S6 := Lib.hid s6
          clear s6 C1 hy hsb
          go_wp2_with fail
          go_roundw
          case rel => exact ⟨q + 1, 1, _, by omega, by go_num, S6.out, HF.out, by omega, by omega⟩
          case measure => simp [intOf]; omega
        obtain rfl : q = m := by omega
        have d1 : decide ((q : Int) < (q : Int)) = false := decide_eq_false (by omega)
        obtain ⟨M, hM⟩ : ∃ M : Nat → Bool, (fun j => decide (j < q) && g j) = M := ⟨_, rfl⟩
        rw [hM] at hfl
        have HM := Lib.hid (show ∀ j, M j = (decide (j < q) && g j) from fun j => by rw [← hM])
        have S5 := Lib.hid sr
        have HF := Lib.hid hfl
        clear sr hfl hM
        go_wp2_with fail
        have s5 := S5.out
        have hfl := HF.out
        have hW := HW.out
        go_loopw [] (fun wr => ∃ (W : Nat → Int) (now : Int) (ls : Nat → Ln), St w None wr (IL c 16 16 now ls gb2 bb [LisR 24 6 (.slice C 16 cc) 16 (lv 16), ArrR wa 3 16 (fun j => .int .i64 (W j))]) ∧ FL now W Rk M ls ∧ 0 ≤ now ∧ now ≤ 1 ∧ (∀ j, 0 ≤ W j ∧ W j ≤ i)) (fun wr => mz wa 16 wr)
        case atStart => exact ⟨W, now, ls, s5, hfl, h0, h1, hW⟩
        case round =>
          clear s5 S5 HF hfl HW hW h0 h1
          obtain ⟨W, now, ls, sr, hfl, h0, h1, hW⟩ := hrel
          have CP := Lib.hid (Pending_o sr (by omega))
          have HF := Lib.hid hfl
          have HW := Lib.hid hW
          have HZ := Lib.hid (mz_is sr (il_x (k := 1) rfl))
          clear sr hfl hW
          go_wp2_with fail
          refine CP.out.mono ?_
          rintro e w6 ⟨a, p, ok, rfl, hp, s6⟩
          have HP := Lib.hid hp
          have S6 := Lib.hid s6
          clear CP hp s6
          go_wp2_with fail
          have s6 := S6.out
          go_loopw [16, 17] (fun x16 x17 wr2 => ∃ (k : Nat) (v : Int), k ≤ 16 ∧ x16 = .int .i64 v ∧ x17 = .int .i64 ((k : Int) - 1) ∧ LeastP W M k v ∧ St w None wr2 (IL c 16 16 now ls gb2 bb [LisR 24 6 (.slice C 16 cc) 16 (lv 16), ArrR wa 3 16 (fun j => .int .i64 (W j))]) ∧ -1 ≤ v ∧ v < 16) (fun _ x _ => (intOf x + 1).toNat)
          case atStart => exact ⟨16, -1, by omega, rfl, rfl, LeastP.top, s6, by omega, by omega⟩
          case round =>
            clear s6 S6
            obtain ⟨k, v, hk, rfl, rfl, hv, sr, v0, v1⟩ := hrel
            by_cases hk0 : k = 0
            · subst hk0
              have HL := Lib.hid (HF.out.least HP.out hv)
              have SR := Lib.hid sr
              clear sr hv HM
              have e1 : ((0 : Nat) : Int) - 1 = -1 := rfl
              rw [e1]
              rcases HL.out with ⟨rfl, rfl, kk, hk16, rfl, hmk, hwk⟩ | ⟨rfl, rfl⟩
              · have k0 : (0 : Int) ≤ (kk : Int) := by omega
                have k1 : (kk : Int) < 16 := by omega
                have CA := Lib.hid (Ack_o (R := Rk) (i := kk) (t := 1) SR.out (by omega) hk16 (fl_oks HF.out) h0 h1 (by omega) (by omega))
                have HMK := Lib.hid (And.intro hmk hwk)
                clear hmk hwk HL HP
                go_wp2_with fail
                refine CA.out.mono ?_
                rintro e wA ⟨x, fl, rfl, l1, hl1, hA⟩
                rcases hA with ⟨rfl, hz, hx0, hxe, sA⟩ | ⟨rfl, rfl, hz, sA⟩
                · obtain ⟨hle, hF⟩ := HF.out.ack h0 h1 hk16 hl1
                  rw [← hxe] at hle hF
                  have aA := sA.arr_cell (1 + 16 + 16 + 1) (il_x rfl) hk16
                  have fA := sA.arr_frozen (1 + 16 + 16 + 1) (il_x rfl) kk
                  have S7 := Lib.hid (st_put sA hk16 (W kk - x))
                  have HS := Lib.hid ((sw_upd W kk x hx0 hle 16).1 hk16)
                  have HFN := Lib.hid hF
                  have wk := HW.out kk
                  obtain ⟨y, hy⟩ : ∃ y, W kk = y := ⟨_, rfl⟩
                  rw [hy] at hle S7 aA HFN HS wk
                  have HY := Lib.hid hy
                  have dx : decide (x < 1) = false := decide_eq_false (by omega)
                  have dy : decide (y < x) = false := decide_eq_false (by omega)
                  clear CA hl1 hxe sA hz hF hy
                  go_wp2_with fail
                  go_roundw
                  case rel =>
                    refine ⟨_, 1, _, S7.out, HFN.out, by omega, by omega, fun j => ?_⟩
                    have := HW.out j
                    unfold updL; split <;> omega
                  case measure => rw [HZ.out, mz_is S7.out (il_x (k := 1) rfl)]; exact HS.out
                · have := (HF.out.pend hk16).2 HMK.out
                  rcases hz with h | h
                  · rw [this.1] at h; cases h
                  · omega
              · clear HL HP
                go_wp2_with fail
                go_ret
                exact ⟨rfl, SR.out.below⟩
            obtain ⟨j, rfl⟩ : ∃ j, k = j + 1 := ⟨k - 1, by omega⟩
            have ej : ((j + 1 : Nat) : Int) - 1 = (j : Int) := by omega
            rw [ej]
            have j0 : (0 : Int) ≤ (j : Int) := by omega
            have j1 : (j : Int) < 16 := by omega
            have aj := sr.arr_cell (1 + 16 + 16 + 1) (il_x rfl) (show j < 16 by omega)
            have wj := HW.out j
            have HV := Lib.hid hv
            have HMj := Lib.hid (HM.out j)
            have SR := Lib.hid sr
            obtain ⟨x, hx⟩ : ∃ x, W j = x := ⟨_, rfl⟩
            rw [hx] at aj wj
            have HX := Lib.hid hx
            clear sr hv hx
            by_cases hx0 : 0 < x
            · have dx : decide (0 < x) = true := decide_eq_true hx0
              by_cases hjq : q ≤ j
              · have d3 : decide ((q : Int) ≤ (j : Int)) = true := decide_eq_true (by omega)
                have d4 : decide (q ≤ j) = true := decide_eq_true hjq
                go_wp2_with fail
                go_roundw
                case rel => exact ⟨j, j, by omega, rfl, by go_num, LeastP.yes (by omega) ⟨by rw [HMj.out, decide_eq_false (show ¬ j < q by omega), Bool.false_and], by rw [HX.out]; exact hx0⟩, SR.out, by omega, by omega⟩
                case measure => simp [intOf]
              · have d3 : decide ((q : Int) ≤ (j : Int)) = false := decide_eq_false (by omega)
                have d4 : decide (q ≤ j) = false := decide_eq_false hjq
                obtain ⟨sb, off, rfl, hsb, hcell⟩ := rdB (by omega)
                have hy : wr.cell? ⟨sb, off + j, none⟩ = some (.bool (g j)) := (SR.out.cell (p := ⟨sb, off + j, none⟩) hsb id).trans (hcell _ (by omega))
                clear hcell
                cases hg : g j
                · rw [hg] at hy
                  go_wp2_with fail
                  go_roundw
                  case rel => exact ⟨j, j, by omega, rfl, by go_num, LeastP.yes (by omega) ⟨by rw [HMj.out, hg]; simp, by rw [HX.out]; exact hx0⟩, SR.out, by omega, by omega⟩
                  case measure => simp [intOf]
                · rw [hg] at hy
                  go_wp2_with fail
                  go_roundw
                  case rel => exact ⟨j, v, by omega, rfl, by go_num, LeastP.no (by omega) (fun h => by rw [HMj.out, hg, decide_eq_true (by omega)] at h; exact absurd h.1 (by decide)) HV.out, SR.out, by omega, by omega⟩
                  case measure => simp [intOf]
            · have dx : decide (0 < x) = false := decide_eq_false hx0
              go_wp2_with fail
              go_roundw
              case rel => exact ⟨j, v, by omega, rfl, by go_num, LeastP.no (by omega) (fun h => hx0 (by rw [← HX.out]; exact h.2)) HV.out, SR.out, by omega, by omega⟩
              case measure => simp [intOf]

set_option maxRecDepth 100000 in
theorem lifted (os : Os) (started : os.Started) (H : Type) (enc : TypeId × Value → H) :
    ReturnsInHanded {} Try.checked os 5 .any (Rows.irqLeastSpec.pre6 enc Try.prog Try.f5 Rows.irqLeastRow.domain false) (Rows.irqLeastSpec.post enc Try.prog Try.f5 false true false false) := by
  refine law_lifted (C := Try.checked) (tb := 4) own started (by kernel_rfl) Try.func5
    (ChangeSpec.witness6 (enc := enc) (C := Try.checked) false ⟨#[], #[.slice none 0 0, .slice none 0 0], []⟩ 8 (by kernel_rfl) (by kernel_rfl) (by kernel_rfl) (by kernel_rfl)) laid (by kernel_rfl) (by kernel_rfl) Try.underlying4 rfl ?_
  intro W base args ds ps hval0 hA0 hlt
  have hval : ∀ (j : Nat) t v, Try.f5.params[j]? = some t → args[j]? = some v → Value.okWide Try.prog W .any base t v := hval0
  have hA : DataW.TrodAll enc Try.prog W 0 (fun _ => true) true Try.f5.params.toList args.toList ds ps := hA0
  clear hA0 hval0
  rw [Try.params5] at hA hval
  obtain ⟨v0, vs0, d0, ds0, p0, q0, hargs, rfl, rfl, h0, r0⟩ := trodAll_cons hA
  obtain ⟨v1, vs1, d1, ds1, p1, q1, rfl, rfl, rfl, h1, r1⟩ := trodAll_cons r0
  obtain ⟨rfl, rfl, rfl⟩ := trodAll_nil r1
  obtain rfl : args = #[v0, v1] := by cases args; simp_all
  obtain ⟨A0, n0, cap0, f0, rfl, le0, mx0, wf0, rd0⟩ := open_slice_ints Try.underlying25 Try.underlying5 (by kernel_rfl) (hval 0 25 v0 rfl rfl) h0
  obtain ⟨A1, n1, cap1, f1, rfl, le1, mx1, rd1⟩ := open_slice_bools Try.underlying45 Try.underlying4 (by kernel_rfl) (hval 1 45 v1 rfl rfl) h1
  refine ⟨⟨rfl, rfl, rfl⟩, ?_⟩
  exact walk A0 n0 cap0 f0 A1 n1 cap1 f1 W rd0 (fun i => bounds_u8 (wf0 i)) rd1

theorem over : Rows.irqLeastRow.holds Try.pinned (OpenSpec.ofChange Rows.irqLeastSpec) :=
  OpenClaim.holds_of_wide 5 Try.f5 rfl rfl rfl rfl rfl rfl rfl ⟨rfl, rfl, rfl, rfl, rfl⟩ rfl rfl rfl rfl rfl (by kernel_rfl) Try.func5 (by kernel_rfl)
    (of_decide_eq_true (by kernel_rfl)) (by unfold Func.isWrapper; first | (rw [if_pos (by decide +kernel)]; kernel_rfl) | (rw [if_neg (by decide +kernel)]; exact ⟨rfl, rfl⟩))
    (fun os started H enc _ => lifted os started H enc)
theorem proved : Rows.IrqLeastSaid := over
#print axioms proved
end Go.Proofs.Ytaoioejgealciaa.irqLeast
