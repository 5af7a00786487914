/- Layer 17: a processor: whose time is missed. -/
import Derived.Test.YtdnonhhphkmlmaaCpuH
namespace Go.Proofs.Ytdnonhhphkmlmaa
open Go.RowKit
set_option linter.unusedVariables false
set_option maxRecDepth 100000
set_option maxHeartbeats 2000000
theorem YtdnonhhphkmlmaaiInt : (Try.prog.info? 3).map (fun i => (i.zero, i.size, i.bytes)) = some (some (.int .i64 0), 1, 8) := by kernel_rfl
theorem info3c {P : Program} {t : TypeId} {z : Value} {s b : Nat} (h : (P.info? t).map (fun i => (i.zero, i.size, i.bytes)) = some (some z, s, b)) : ∃ i, P.info? t = some i ∧ i.zero = some z ∧ i.size = s ∧ i.bytes = b := by
  cases hi : P.info? t with
  | none => rw [hi] at h; cases h
  | some i => rw [hi] at h; simp at h; exact ⟨i, rfl, h.1, h.2.1, h.2.2⟩
/-- Whose time comes. -/
def misB (T : Nat → CTk) (now : Int) (j : Nat) : Bool := (T j).there && ((T j).unt == now)
def misL (T : Nat → CTk) (now : Int) (n : Nat) : List Nat := (List.range n).filter (misB T now)
theorem misL_succ (T : Nat → CTk) (now : Int) (n : Nat) : misL T now (n + 1) = misL T now n ++ (if misB T now n = true then [n] else []) := by
  unfold misL
  rw [List.range_succ, List.filter_append]
  congr 1
  cases h : misB T now n <;> simp [List.filter, h]
theorem misL_le (T : Nat → CTk) (now : Int) (n : Nat) : (misL T now n).length ≤ n := by
  unfold misL; exact Nat.le_trans (List.length_filter_le _ _) (by simp)
def MisQ (w0 : World) (S0 : Nat → Prop) (X : List Res) (p : Pl) (T : Nat → CTk) (V : Nat → Sv) (now : Int) (s : QS) (e : Ending) (w' : World) : Prop := ∃ B cb, e = .returned (.slice B (misL T now p.n).length cb) ∧ St w0 S0 w' ((CpuL p T V now s ++ X) ++ [LisR 3 1 (.slice B (misL T now p.n).length cb) (misL T now p.n).length (ivs (misL T now p.n))])
section
variable {w0 w : World} {S0 : Nat → Prop} {X : List Res} {p : Pl} {T T' : Nat → CTk} {V V' : Nat → Sv} {now id dem : Int} {s s' : QS}
theorem cMissed_c (H : St w0 S0 w (CpuL p T V now s ++ X)) (hn : p.n ≤ 1000) :
    Calls Try.prog 44 #[.pointer (some ⟨p.c, 0, none⟩)] w (MisQ w0 S0 X p T V now s) := by
  obtain ⟨iI, hiI, hzI, hsI, hbI⟩ := info3c YtdnonhhphkmlmaaiInt
  obtain ⟨b0, b1, b2, b3⟩ := cpu_box H
  have HH := Lib.hid (show St w0 S0 w ([LisR 3 1 (.slice none 0 0) 0 (ivs [])] ++ (CpuL p T V now s ++ X)) from (H.lis_nil 3 1).comm)
  have BK := Lib.hid (fun (W : World) (R : Res) (K : St w0 S0 W ([R] ++ (CpuL p T V now s ++ X))) => show St w0 S0 W (CpuL p T V now s ++ (X ++ [R])) from by
    have := K.comm
    rwa [List.append_assoc] at this)
  clear H b1 b2 b3
  go_enter Try.func44, Try.ntmps44
  go_wp2_with fail
  go_loopw [11, 3, 4, 5] (fun x11 x3 x4 x5 wr => ∃ (k : Nat) (B : Option Addr) (q cb : Nat), k ≤ p.n ∧ x11 = .int .i64 k ∧ x3 = .slice B q cb ∧ (misL T now k).length = q ∧ St w0 S0 wr ([LisR 3 1 (.slice B q cb) q (ivs (misL T now k))] ++ (CpuL p T V now s ++ X))) (fun x _ _ _ _ => p.n - (intOf x).toNat)
  case atStart => exact ⟨0, none, 0, 0, by omega, rfl, rfl, rfl, HH.out⟩
  case round =>
  clear HH
  obtain ⟨k, B, q, cb, hk, rfl, rfl, hq, sr⟩ := hrel
  have HQ := Lib.hid hq
  have hqk : q ≤ k := by rw [← hq]; exact misL_le T now k
  clear hq
  by_cases hlt : k < p.n
  · obtain ⟨g, off, hA, hc, hf⟩ := cpu_task (BK.out _ _ sr) hlt
    have c0 := hc 0 (by omega)
    have c1 := hc 1 (by omega)
    have c2 := hc 2 (by omega)
    have c3 := hc 3 (by omega)
    have c4 := hc 4 (by omega)
    have c5 := hc 5 (by omega)
    have c6 := hc 6 (by omega)
    have c7 := hc 7 (by omega)
    have c8 := hc 8 (by omega)
    have c9 := hc 9 (by omega)
    rw [Nat.add_zero (off + k * 10)] at c0
    unfold tkv at c0 c1 c2 c3 c4 c5 c6 c7 c8 c9
    rw [hA]
    have z0 : decide ((k : Int) < (p.n : Int)) = true := decide_eq_true (by omega)
    have z0' : decide (k < p.n) = true := decide_eq_true hlt
    have s2 := (sr.box 71 #[.int .i64 (T k).prio, .int .u64 (T k).cost, .int .u64 (T k).per, .int .u64 (T k).dead, .bool (T k).began, .int .u64 (T k).rel, .bool (T k).there, .int .u64 (T k).dem, .int .u64 (T k).ran, .int .u64 (T k).unt]).comm
    obtain ⟨h, hh⟩ : ∃ h, wr.heap.size = h := ⟨_, rfl⟩
    rw [hh] at s2
    have S2 := Lib.hid s2
    have hb := s2.blk 0 rfl
    have k6 : _ = some (Value.bool (T k).there) := (hb.cell 6).trans (by simp)
    have k9 : _ = some (Value.int .u64 (T k).unt) := (hb.cell 9).trans (by simp)
    have k3 := (cpu_box (BK.out _ _ (s2.drop 0 (by simp)))).2.2.2
    clear sr s2 hb hf hA hc
    go_upto_region 5 with (fail)
    generalize wr.alloc (.cells #[.int .i64 (T k).prio, .int .u64 (T k).cost, .int .u64 (T k).per, .int .u64 (T k).dead, .bool (T k).began, .int .u64 (T k).rel, .bool (T k).there, .int .u64 (T k).dem, .int .u64 (T k).ran, .int .u64 (T k).unt] 71) = wq at *
    clear c0 c1 c2 c3 c4 c5 c6 c7 c8 c9
    have MS := Lib.hid (misL_succ T now k)
    have HB := Lib.hid (show misB T now k = ((T k).there && ((T k).unt == now)) from rfl)
    generalize (T k).there = th at *
    generalize (T k).unt = un at *
    cases th with
    | false =>
      have EQ := Lib.hid (show misL T now (k + 1) = misL T now k by rw [MS.out, HB.out, if_neg (by simp), List.append_nil])
      clear MS HB
      go_wp2_with fail
      go_quiet (fail)
      have SR := Lib.hid ((S2.out.drop 0 (by simp)).drewN nq)
      clear k3 k6 k9 S2
      generalize wq.drewN nq = wz at *
      go_wp2_with fail
      go_roundw
      case rel => exact ⟨k + 1, B, q, cb, by omega, by go_num, rfl, by rw [EQ.out]; exact HQ.out, by rw [EQ.out]; exact SR.out⟩
      case measure => simp [intOf]; omega
    | true =>
      by_cases hu : un = now
      · subst hu
        have EQ := Lib.hid (show misL T un (k + 1) = misL T un k ++ [k] by rw [MS.out, HB.out, if_pos (by simp)])
        have y1 : (un == un) = true := by simp
        clear MS HB
        go_wp2_with fail
        go_quiet (fail)
        have sz := (S2.out.drop 0 (by simp)).drewN nq
        clear k3 k6 k9 S2
        generalize wq.drewN nq = wz at *
        have s3 := (sz.lis_new 3 1 1 #[.int .i64 (k : Int)] rfl (by unfold maxLen; omega)).comm
        obtain ⟨h3, hh3⟩ : ∃ h, wz.heap.size = h := ⟨_, rfl⟩
        rw [hh3] at s3
        have HL := Lib.hid (s3.lis 1 rfl)
        have HR := Lib.hid (s3.lis 0 rfl).reads
        have S3 := Lib.hid s3
        clear sz s3
        go_wp2_with (at_builtin; refine wpList_lis rfl (.tmp 27) (.tmp 29) 37 rfl 3 iI (.int .i64 0) 1 8 Try.underlying37 hiI hzI hsI hbI rfl (by decide) _ _ _ rfl HL.out (some ⟨h3, 0, none⟩) 1 1 [.int .i64 (k : Int)] rfl HR.out (by simp [Value.oneCell']) (by unfold maxLen; omega) (by omega) ?_; intro D cD w6 hl hg hat; have t6 := (S3.out.lis_put 1 rfl hl hg hat).drop 0 (by simp); have S6 := Lib.hid t6; clear hl hg hat t6)
        go_roundw
        case rel => exact ⟨k + 1, D, q + 1, cD, by omega, by go_num, rfl, by rw [EQ.out, List.length_append, HQ.out]; rfl, by rw [EQ.out, ivs_app]; exact S6.out⟩
        case measure => simp [intOf]; omega
      · have y1 : (un == now) = false := beq_eq_false_iff_ne.2 hu
        have EQ := Lib.hid (show misL T now (k + 1) = misL T now k by rw [MS.out, HB.out, if_neg (by simp [hu]), List.append_nil])
        clear MS HB
        go_wp2_with fail
        go_quiet (fail)
        have SR := Lib.hid ((S2.out.drop 0 (by simp)).drewN nq)
        clear k3 k6 k9 S2
        generalize wq.drewN nq = wz at *
        go_wp2_with fail
        go_roundw
        case rel => exact ⟨k + 1, B, q, cb, by omega, by go_num, rfl, by rw [EQ.out]; exact HQ.out, by rw [EQ.out]; exact SR.out⟩
        case measure => simp [intOf]; omega
  · obtain rfl : k = p.n := by omega
    have z0 : decide ((p.n : Int) < (p.n : Int)) = false := decide_eq_false (by omega)
    have SR := Lib.hid (show St w0 S0 wr ((CpuL p T V now s ++ X) ++ [LisR 3 1 (.slice B (misL T now p.n).length cb) (misL T now p.n).length (ivs (misL T now p.n))]) from by rw [HQ.out]; exact sr.comm)
    clear sr hlt
    go_wp2_with fail
    go_ret
    exact ⟨B, cb, by rw [HQ.out]; rfl, SR.out⟩
end
end Go.Proofs.Ytdnonhhphkmlmaa
