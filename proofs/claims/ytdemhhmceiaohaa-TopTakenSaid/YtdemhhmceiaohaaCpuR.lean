/- Layer 17: a processor anew. -/
import Derived.Test.YtdemhhmceiaohaaSchZ
import Derived.Test.YtdemhhmceiaohaaRtaX
namespace Go.Proofs.Ytdemhhmceiaohaa
open Go.RowKit
set_option linter.unusedVariables false
set_option maxRecDepth 100000
set_option maxHeartbeats 2000000
theorem YtdemhhmceiaohaaiTask : (Try.prog.info? 76).map (fun i => (i.zero, i.size, i.bytes)) = some (some (.agg #[.int .i64 0, .int .u64 0, .int .u64 0, .int .u64 0, .bool false, .int .u64 0, .bool false, .int .u64 0, .int .u64 0, .int .u64 0]), 10, 80) := by kernel_rfl
theorem YtdemhhmceiaohaaiSrv : (Try.prog.info? 81).map (fun i => (i.zero, i.size, i.bytes)) = some (some (.agg #[.pointer none, .int .u64 0]), 2, 16) := by kernel_rfl
/-- A task that was never released. -/
def tk0 (x : Wk) : CTk := ⟨x.prio, x.cost, x.per, x.dead, false, 0, false, 0, 0, 0⟩
abbrev tkRow (x : Wk) : Array Value := #[.int .i64 x.prio, .int .u64 x.cost, .int .u64 x.per, .int .u64 x.dead, .bool false, .int .u64 0, .bool false, .int .u64 0, .int .u64 0, .int .u64 0]
theorem tk0_row (W : Nat → Wk) (k : Nat) : grid k 10 (tkv fun j => tk0 (W j)) ++ (tkRow (W k)).toList = grid (k + 1) 10 (tkv fun j => tk0 (W j)) := by
  rw [grid_snoc _ _ _ (by omega)]; rfl
theorem sv_row (V : Nat → Sv) (k : Nat) (b : Nat) (v : Sv) (hv : v.bp = b) (hw : v.work = 0) : grid k 2 (svv V) ++ [.pointer (some ⟨b, 0, none⟩), .int .u64 0] = grid (k + 1) 2 (svv (updK V k v)) := by
  rw [grid_snoc _ _ _ (by omega), grid_like (V := svv (updK V k v)) (V' := svv V) fun j q hj hq => by
    have e : updK V k v j = V j := updK_ne V v (by omega)
    unfold svv; rw [e]]
  congr 1
  show _ = [svv (updK V k v) k 0, svv (updK V k v) k 1]
  unfold svv; rw [updK_self, hv, hw]; rfl
section
variable {w0 w : World} {S0 : Nat → Prop} {X : List Res} {A E : Option Addr} {n m ca ce : Nat} {W : Nat → Wk} {S : Nat → Ld}
theorem cNew_c (rd : Ts w A n W) (rdS : Ls w E m S) (hT : TOK n W) (hS : LOK m S) (ht : LTyped m S) :
    Calls Try.prog 8 #[.slice A n ca, .slice E m ce] w fun e w' => ∃ (p : Pl) (V : Nat → Sv), e = .returned (.tuple #[.pointer (some ⟨p.c, 0, none⟩), .int .i64 0]) ∧ p.n = n ∧ p.m = m ∧
      (∀ k, k < m → asS (V k) (S k) ∧ (V k).work = 0 ∧ (V k).xs = [] ∧ (V k).N = 0) ∧ St w None w' (CpuL p (fun j => tk0 (W j)) V 0 QS.new ++ []) := by
  obtain ⟨iT, hiT, hzT, hsT, hbT⟩ := info3c YtdemhhmceiaohaaiTask
  obtain ⟨iV, hiV, hzV, hsV, hbV⟩ := info3c YtdemhhmceiaohaaiSrv
  have n32 := hT.1
  have m16 := hS.1
  have MAY := Lib.hid (cMay_c A n ca E m ce W 1 w rd (by omega) (by omega) (by omega) (fun hm V hV => by
    refine (extra_c (cap := ce) (rdS.below hV) ht hS 1 (by omega) (by omega) 1 ?_).mono fun e w' h => h
    have h1 := tkn_pos (ldl_ok hS.2 m (Nat.le_refl _)) (fun h => by have := ldl_len S m; rw [h] at this; simp at this; omega) (s := 1) (Nat.le_refl _)
    show (1 : Int) = ((min (tkn (ldl S m) 1) 1 : Nat) : Int)
    omega) true (decide_eq_true ⟨n32, hT.2, Or.inr (by omega)⟩).symm)
  have RD := Lib.hid rd
  have RS := Lib.hid rdS
  have OKS := Lib.hid hS.2
  clear rd rdS hT hS ht
  go_enter Try.func8, Try.ntmps8
  go_wp2_with fail
  refine MAY.out.mono ?_
  rintro e w1 ⟨rfl, hb1⟩
  have NQ := Lib.hid (New_o ((St.begin w).stay hb1))
  clear MAY hb1
  go_wp2_with fail
  refine NQ.out.mono ?_
  rintro e w2 ⟨q, rfl, s2⟩
  have s3 := ((s2.box 74 #[.slice none 0 0, .slice none 0 0, .pointer (some ⟨q, 0, none⟩), .int .u64 0]).lis_nil 76 10).lis_nil 81 2
  obtain ⟨c, hc⟩ : ∃ c, w2.heap.size = c := ⟨_, rfl⟩
  rw [hc] at s3
  have S4 := Lib.hid (show St w None _ (CpuL ⟨c, q, none, 0, 0, none, 0, 0⟩ (fun j => tk0 (W j)) (fun _ => ⟨0, 0, 0, 0, 0, []⟩) 0 QS.new ++ []) from s3.pick [1, 2, 3, 0] _ (by decide) (fun j hj => by simp at hj ⊢; omega) rfl (fun i j h => by
    match i, h with
    | 0, h => cases h; rfl
    | 1, h => cases h; rfl
    | 2, h => cases h; rfl
    | 3, h => cases h; rfl
    | i + 4, h => simp at h))
  clear s2 s3 NQ
  go_wp2_with fail
  generalize w2.alloc (.cells #[.slice none 0 0, .slice none 0 0, .pointer (some ⟨q, 0, none⟩), .int .u64 0] 74) = w3 at *
  go_loopw [22, 8] (fun x22 x8 wr => ∃ (k : Nat) (A' : Option Addr) (ka : Nat), k ≤ n ∧ x22 = .int .i64 k ∧ St w None wr (CpuL ⟨c, q, A', ka, k, none, 0, 0⟩ (fun j => tk0 (W j)) (fun _ => ⟨0, 0, 0, 0, 0, []⟩) 0 QS.new ++ [])) (fun x _ _ => n - (intOf x).toNat)
  case atStart => exact ⟨0, none, 0, by omega, rfl, S4.out⟩
  case round =>
    clear S4
    obtain ⟨k, A', ka, hk, rfl, sr⟩ := hrel
    by_cases hlt : k < n
    · obtain ⟨ib, off, rfl, c0, c1, c2, c3⟩ := RD.out.at_ sr.below hlt
      obtain ⟨x, hx⟩ : ∃ x, W k = x := ⟨_, rfl⟩
      have HG := Lib.hid (tk0_row W k)
      rw [hx] at c0 c1 c2 c3 HG
      obtain ⟨x0, x1, x2, x3⟩ := x
      dsimp only at c0 c1 c2 c3
      have z0 : decide ((k : Int) < (n : Int)) = true := decide_eq_true (by omega)
      have z0' : decide (k < n) = true := decide_eq_true hlt
      have s1 := sr.box 24 #[.int .i64 x0, .int .u64 x1, .int .u64 x2, .int .u64 x3]
      obtain ⟨g, hg⟩ : ∃ g, wr.heap.size = g := ⟨_, rfl⟩
      rw [hg, List.append_assoc] at s1
      have S1 := Lib.hid s1
      have q0 := (cpu_box s1).1
      obtain ⟨b0, b1, b2, b3⟩ := (s1.comm.blk 0 rfl).four4
      clear s1 sr hx
      go_upto_region 7 with (fail)
      generalize wr.alloc (.cells #[.int .i64 x0, .int .u64 x1, .int .u64 x2, .int .u64 x3] 24) = wq at *
      clear c0 c1 c2 c3
      have sN := S1.out.lis_new 76 10 1 (tkRow ⟨x0, x1, x2, x3⟩) rfl (by unfold maxLen; omega)
      have q1 := (sN.blk 0 rfl).four4.1
      have RB := Lib.hid (sN.drew.lis 5 rfl).reads
      have HL4 := Lib.hid (sN.drew.lis 1 rfl)
      have S5 := Lib.hid sN.drew
      clear sN S1
      go_region_law (first
        | (refine step_lis (by rfl) _ _ _ (by rfl) 76 iT (.agg #[.int .i64 0, .int .u64 0, .int .u64 0, .int .u64 0, .bool false, .int .u64 0, .bool false, .int .u64 0, .int .u64 0, .int .u64 0]) 10 80 Try.underlying71 hiT hzT hsT hbT (by rfl) (by omega) (.slice A' k ka) k (grid k 10 (tkv fun j => tk0 (W j))) (by rfl) HL4.out _ 1 1 (tkRow ⟨x0, x1, x2, x3⟩).toList (by rfl) RB.out (by simp [Value.oneCell']) (by unfold maxLen; omega) (by omega) ?_; intro D cD w5 hl hg hat; have t5 := S5.out.lis_put 1 rfl hl hg hat; have m1 := (t5.blk 0 rfl).four4.1; have g1 := (t5.blk 0 rfl).frozen 0; have T6 := Lib.hid (t5.set_ 0 rfl 0 (.slice D (k + 1) cD)); clear hl hg hat t5))
      all_goals
        go_wp2_with fail
        go_roundw
        case rel =>
          have T7 : St w None _ [BlkR c 74 #[.slice D (k + 1) cD, .slice none 0 0, .pointer (some ⟨q, 0, none⟩), .int .u64 0], LisR 76 10 (.slice D (k + 1) cD) (k + 1) (grid k 10 (tkv fun j => tk0 (W j)) ++ (tkRow ⟨x0, x1, x2, x3⟩).toList), LisR 81 2 (.slice none 0 0) 0 (grid 0 2 (svv fun _ => ⟨0, 0, 0, 0, 0, []⟩)), QueR q QS.new] := T6.out.take 4
          rw [HG.out] at T7
          exact ⟨k + 1, D, cD, by omega, by go_num, T7⟩
        case measure => simp [intOf]; omega
    · obtain rfl : k = n := by omega
      have SR := Lib.hid sr
      have z0 : decide ((k : Int) < (k : Int)) = false := decide_eq_false (by omega)
      clear sr hlt
      go_wp2_with fail
      go_loopw [40, 10, 11, 12] (fun x40 x10 x11 x12 wr => ∃ (i : Nat) (E' : Option Addr) (ie : Nat) (V : Nat → Sv), i ≤ m ∧ x40 = .int .i64 i ∧ (∀ j, j < i → asS (V j) (S j) ∧ (V j).work = 0 ∧ (V j).xs = [] ∧ (V j).N = 0) ∧ St w None wr (CpuL ⟨c, q, A', ka, k, E', ie, i⟩ (fun j => tk0 (W j)) V 0 QS.new ++ [])) (fun x _ _ _ _ => m - (intOf x).toNat)
      case atStart => exact ⟨0, none, 0, _, by omega, rfl, (fun j hj => absurd hj (by omega)), SR.out⟩
      case round =>
        clear SR
        obtain ⟨i, E', ie, V, hi, rfl, hV, sr⟩ := hrel
        have HV := Lib.hid hV
        clear hV
        by_cases hlt : i < m
        · obtain ⟨ib, off, rfl, c0, c1⟩ := RS.out.at_ sr.below hlt
          obtain ⟨o1, o2, o3, o4⟩ := OKS.out i hlt
          obtain ⟨x, hx⟩ : ∃ x, S i = x := ⟨_, rfl⟩
          have HX := Lib.hid hx
          rw [hx] at c0 c1 o1 o2 o3 o4
          obtain ⟨B, P⟩ := x
          dsimp only at c0 c1 o1 o2 o3 o4
          have y0 : decide ((i : Int) < (m : Int)) = true := decide_eq_true (by omega)
          have y0' : decide (i < m) = true := decide_eq_true hlt
          have s1 := (sr.box 47 #[.int .i64 B, .int .u64 P]).comm
          obtain ⟨g, hg⟩ : ∃ g, wr.heap.size = g := ⟨_, rfl⟩
          rw [hg] at s1
          obtain ⟨b0, b1⟩ := (s1.blk 0 rfl).two
          have BN := Lib.hid (bud_new s1 (B := B) (P := P) ⟨by omega, by omega, by omega, by omega⟩)
          clear s1 sr hx o1 o2 o3 o4
          go_upto_region 12 with (fail)
          generalize wr.alloc (.cells #[.int .i64 B, .int .u64 P] 47) = wq at *
          clear c0 c1
          go_wp2_with fail
          refine BN.out.mono ?_
          rintro e w4 ⟨bd, rfl, s4⟩
          have s5 := s4.drop 0 (by simp)
          obtain ⟨V2, hV2⟩ : ∃ V2, V2 = updK V i ⟨bd, 0, B, P, 0, []⟩ := ⟨_, rfl⟩
          have HV2 := Lib.hid hV2
          have s6 : St w None w4 ([BlkR c 74 #[.slice A' k ka, .slice E' i ie, .pointer (some ⟨q, 0, none⟩), .int .u64 0], LisR 76 10 (.slice A' k ka) k (grid k 10 (tkv fun j => tk0 (W j))), LisR 81 2 (.slice E' i ie) i (grid i 2 (svv V)), QueR q QS.new] ++ (List.range i).map (bdR V) ++ [BudR bd B P 0 []]) := by
            rw [List.append_nil] at s5
            exact s5
          have s7 := s6.fam_snoc (F' := bdR V2) (BudR.ok _ _ _ _ _) (fun j hj => by rw [hV2]; unfold bdR; rw [updK_ne V _ (by omega)]) (fun S hS => by rw [hV2]; unfold bdR; rw [updK_self]; exact hS)
          have s8 := (s7.lis_new 81 2 1 #[.pointer (some ⟨bd, 0, none⟩), .int .u64 0] rfl (by unfold maxLen; omega)).comm
          have q0 := (s7.blk 0 rfl).four4.2.1
          have q1 := (s8.blk 1 rfl).four4.2.1
          obtain ⟨h3, hh3⟩ : ∃ h, w4.heap.size = h := ⟨_, rfl⟩
          rw [hh3] at s8
          have RB := Lib.hid (s8.lis 0 rfl).reads
          have HL4 := Lib.hid (s8.lis 3 rfl)
          have S5 := Lib.hid s8
          clear s4 s5 s6 s7 s8 BN b0 b1 hV2
          go_wp2_with (at_builtin; refine wpList_lis rfl (.tmp 53) (.tmp 56) 72 rfl 81 iV (.agg #[.pointer none, .int .u64 0]) 2 16 Try.underlying72 hiV hzV hsV hbV rfl (by decide) _ _ _ rfl HL4.out (some ⟨h3, 0, none⟩) 1 1 [.pointer (some ⟨bd, 0, none⟩), .int .u64 0] rfl RB.out (by simp [Value.oneCell']) (by unfold maxLen; omega) (by omega) ?_; intro D cD w5 hl hg hat; have t5 := S5.out.lis_put 3 rfl hl hg hat; have m1 := (t5.blk 1 rfl).four4.2.1; have g1 := (t5.blk 1 rfl).frozen 1; have T6 := Lib.hid (t5.set_ 1 rfl 1 (.slice D (i + 1) cD)); clear hl hg hat t5)
          all_goals
            go_roundw
            case rel =>
              have T7 : St w None (w5.setCell ⟨c, 1, none⟩ (.slice D (i + 1) cD)) ([BlkR c 74 #[.slice A' k ka, .slice D (i + 1) cD, .pointer (some ⟨q, 0, none⟩), .int .u64 0], LisR 76 10 (.slice A' k ka) k (grid k 10 (tkv fun j => tk0 (W j))), LisR 81 2 (.slice D (i + 1) cD) (i + 1) (grid i 2 (svv V) ++ [.pointer (some ⟨bd, 0, none⟩), .int .u64 0]), QueR q QS.new] ++ (List.range (i + 1)).map (bdR V2) ++ []) := by
                rw [List.append_nil]
                exact T6.out.drop 0 (by simp)
              rw [sv_row V i bd ⟨bd, 0, B, P, 0, []⟩ rfl rfl, ← HV2.out] at T7
              refine ⟨i + 1, D, cD, V2, by omega, by go_num, fun j hj => ?_, T7⟩
              rw [HV2.out]
              by_cases e : j = i
              · subst e
                rw [updK_self, HX.out]
                exact ⟨⟨rfl, rfl⟩, rfl, rfl, rfl⟩
              · rw [updK_ne V _ e]
                exact HV.out j (by omega)
            case measure => simp [intOf]; omega
        · obtain rfl : i = m := by omega
          have y0 : decide ((i : Int) < (i : Int)) = false := decide_eq_false (by omega)
          have SR := Lib.hid sr
          clear sr hlt
          go_wp2_with fail
          go_ret2
          exact ⟨⟨c, q, A', ka, k, E', ie, i⟩, V, rfl, rfl, rfl, HV.out, SR.out⟩
end
end Go.Proofs.Ytdemhhmceiaohaa
