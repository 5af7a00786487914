/- Layer 17: a processor: a job runs a tick. -/
import Derived.Test.YtdnonhhphkmlmaaCpuI
namespace Go.Proofs.Ytdnonhhphkmlmaa
open Go.RowKit
set_option linter.unusedVariables false
set_option maxRecDepth 100000
set_option maxHeartbeats 2000000
/-- A job that ran one tick more. -/
def overT (t : CTk) : Bool := (t.ran + 1 == t.dem) || (t.ran + 1 == t.cost)
def runT (t : CTk) : CTk := { t with ran := t.ran + 1, there := t.there && !(overT t) }
def doneL (t : CTk) (j : Nat) : List Nat := if t.ran + 1 = t.dem then [j] else []
def cutL (t : CTk) (j : Nat) : List Nat := if t.ran + 1 ≠ t.dem ∧ t.ran + 1 = t.cost then [j] else []
def RunQ (w0 : World) (S0 : Nat → Prop) (X : List Res) (p : Pl) (T : Nat → CTk) (V : Nat → Sv) (now : Int) (s : QS) (ld lc : List Nat) (e : Ending) (w' : World) : Prop := ∃ D nd cd C nc cc, e = .returned (.tuple #[.slice D nd cd, .slice C nc cc]) ∧ ld.length = nd ∧ lc.length = nc ∧ St w0 S0 w' ([LisR 3 1 (.slice D nd cd) nd (ivs ld), LisR 3 1 (.slice C nc cc) nc (ivs lc)] ++ (CpuL p T V now s ++ X))
section
variable {w0 w : World} {S0 : Nat → Prop} {X : List Res} {p : Pl} {T T' : Nat → CTk} {V V' : Nat → Sv} {now id dem : Int} {s s' : QS}
theorem nil2 (H : St w0 S0 w (CpuL p T V now s ++ X)) : St w0 S0 w ([LisR 3 1 (.slice none 0 0) 0 (ivs []), LisR 3 1 (.slice none 0 0) 0 (ivs [])] ++ (CpuL p T V now s ++ X)) := by
  have h := ((H.lis_nil 3 1).lis_nil 3 1)
  rw [List.append_assoc] at h
  exact h.comm
theorem cRun_c (H : St w0 S0 w (CpuL p T V now s ++ X)) {j : Nat} (hj : j < p.n) (ht : (T j).there = true) (r0 : 0 ≤ (T j).ran) (r1 : (T j).ran < 9223372036854775807) {q : Nat} (hs : s.ok q) {f : Int} (hG : GoP s (j : Int) f s') :
    Calls Try.prog 43 #[.pointer (some ⟨p.c, 0, none⟩), .int .i64 (j : Int)] w (RunQ w0 S0 X p (updK T j (runT (T j))) V now (if overT (T j) = true then s' else s) (doneL (T j) j) (cutL (T j) j)) := by
  obtain ⟨b0, b1, b2, b3⟩ := cpu_box H
  obtain ⟨g, off, hA, hc, hfr⟩ := cpu_task H hj
  have c8 := hc 8 (by omega)
  unfold tkv at c8
  have f8 := hfr (off + j * 10 + 8)
  rw [hA] at b0
  have HA := Lib.hid hA
  have v0 : (0 : Int) ≤ (j : Int) := by omega
  have v1 : (j : Int) < (p.n : Int) := by omega
  obtain ⟨x, hx⟩ : ∃ x, (T j).ran = x := ⟨_, rfl⟩
  have HX := Lib.hid hx
  rw [hx] at c8 r0 r1
  have w1 : IntKind.u64.wrap (x + 1) = x + 1 := IntWalk.u64_in _ ⟨by omega, by omega⟩
  have s1 := cpu_set H hA hj (show 8 < 10 by omega) (.int .u64 (x + 1)) { T j with ran := x + 1 } (fun k hk => by
    unfold tkv
    rw [updK_self]
    rcases (show k = 0 ∨ k = 1 ∨ k = 2 ∨ k = 3 ∨ k = 4 ∨ k = 5 ∨ k = 6 ∨ k = 7 ∨ k = 8 ∨ k = 9 by omega) with rfl | rfl | rfl | rfl | rfl | rfl | rfl | rfl | rfl | rfl <;> rfl)
  have S1 := Lib.hid s1
  obtain ⟨sF, hsF⟩ : ∃ z, (if overT (T j) = true then s' else s) = z := ⟨_, rfl⟩
  obtain ⟨ld, hld0⟩ : ∃ z, doneL (T j) j = z := ⟨_, rfl⟩
  obtain ⟨lc, hlc0⟩ : ∃ z, cutL (T j) j = z := ⟨_, rfl⟩
  rw [hsF, hld0, hlc0]
  have HSF := Lib.hid hsF
  have HLD := Lib.hid hld0
  have HLC := Lib.hid hlc0
  clear H hA hc hfr hx b1 b3 s1 b2 hsF hld0 hlc0
  go_enter Try.func43, Try.ntmps43
  go_upto_region 3 with (fail)
  generalize w.setCell ⟨g, off + j * 10 + 8, none⟩ (.int .u64 (x + 1)) = wq at *
  clear c8 f8 b0
  obtain ⟨b0, b1, b2, b3⟩ := cpu_box S1.out
  obtain ⟨g', off', hA', hc, hfr⟩ := cpu_task S1.out hj
  obtain ⟨rfl, rfl⟩ : g = g' ∧ off = off' := by rw [HA.out] at hA'; simpa using hA'
  have c1 : wq.cell? ⟨g, off + j * 10 + 1, none⟩ = some (.int .u64 (T j).cost) := by have h := hc 1 (by omega); unfold tkv at h; rw [updK_self] at h; exact h
  have c6 : wq.cell? ⟨g, off + j * 10 + 6, none⟩ = some (.bool (T j).there) := by have h := hc 6 (by omega); unfold tkv at h; rw [updK_self] at h; exact h
  have c7 : wq.cell? ⟨g, off + j * 10 + 7, none⟩ = some (.int .u64 (T j).dem) := by have h := hc 7 (by omega); unfold tkv at h; rw [updK_self] at h; exact h
  have c8 : wq.cell? ⟨g, off + j * 10 + 8, none⟩ = some (.int .u64 (x + 1)) := by have h := hc 8 (by omega); unfold tkv at h; rw [updK_self] at h; exact h
  rw [hA'] at b0
  by_cases hd : x + 1 = (T j).dem
  · have y1 : ((x + 1) == (T j).dem) = true := beq_iff_eq.2 hd
    have hov : overT (T j) = true := by unfold overT; rw [HX.out]; simp [hd]
    have hrun : ({ ({ T j with ran := x + 1 } : CTk) with there := false } : CTk) = runT (T j) := by unfold runT; rw [HX.out, ht, hov]; rfl
    have hld : doneL (T j) j = [j] := by unfold doneL; rw [HX.out]; exact if_pos hd
    have hlc : cutL (T j) j = [] := by unfold cutL; rw [HX.out]; exact if_neg fun h => h.1 hd
    have HR := Lib.hid hrun
    obtain rfl : sF = s' := by rw [← HSF.out, hov, if_pos rfl]
    obtain rfl := HLD.out.symm.trans hld
    obtain rfl := HLC.out.symm.trans hlc
    have s2 := S1.out.lis_new 3 1 1 #[.int .i64 (j : Int)] rfl (by unfold maxLen; omega)
    rw [List.append_assoc] at s2
    obtain ⟨hb, hh⟩ : ∃ hb, wq.heap.size = hb := ⟨_, rfl⟩
    rw [hh] at s2
    obtain ⟨d0, d1, d2, d3⟩ := cpu_box s2
    obtain ⟨g', off', hA2, hc2, hfr2⟩ := cpu_task s2 hj
    obtain ⟨rfl, rfl⟩ : g = g' ∧ off = off' := by rw [HA.out] at hA2; simpa using hA2
    have e6 := hc2 6 (by omega)
    have e6f := hfr2 (off + j * 10 + 6)
    have s3 := cpu_set s2 HA.out hj (show 6 < 10 by omega) (.bool false) { ({ T j with ran := x + 1 } : CTk) with there := false } (fun k hk => by
      unfold tkv
      rw [updK_self, updK_self]
      rcases (show k = 0 ∨ k = 1 ∨ k = 2 ∨ k = 3 ∨ k = 4 ∨ k = 5 ∨ k = 6 ∨ k = 7 ∨ k = 8 ∨ k = 9 by omega) with rfl | rfl | rfl | rfl | rfl | rfl | rfl | rfl | rfl | rfl <;> rfl)
    rw [updK_twice, HR.out] at s3
    have S3 := Lib.hid s3
    have HS := Lib.hid hs
    have HG := Lib.hid hG
    unfold tkv at e6
    rw [updK_self] at e6
    clear s2 s3 hc hfr hc2 hfr2 hA2 hA' hov hld hlc hrun S1 d0 d1 d3 hs hG
    go_upto_region 9 with (fail)
    generalize hz : wq.alloc (.cells #[.int .i64 (j : Int)] 3) = wz at *
    clear b0 b1 b2 b3 c1 c6 c7 c8 hz hh
    go_upto_region 10 with (fail)
    generalize wz.setCell ⟨g, off + j * 10 + 6, none⟩ (.bool false) = wy at *
    obtain ⟨d0, d1, d2, d3⟩ := cpu_box S3.out
    clear d0 d1 d3 e6 e6f
    go_wp2_with fail
    refine (Go_o (i := 3) S3.out rfl HS.out (j : Int) f HG.out).mono ?_
    rintro e w6 ⟨rfl, s6⟩
    have s6 : St w0 S0 w6 (CpuL p (updK T j (runT (T j))) V now sF ++ (X ++ [_])) := s6
    have S6 := Lib.hid s6
    clear s6 S3
    go_wp2_with fail
    go_ret2
    have s7 := S6.out
    rw [← List.append_assoc] at s7
    have s8 := s7.lis_nil 3 1
    rw [List.append_assoc] at s8
    exact ⟨some ⟨hb, 0, none⟩, 1, 1, none, 0, 0, rfl, rfl, rfl, s8.comm⟩
  have y1 : ((x + 1) == (T j).dem) = false := beq_eq_false_iff_ne.2 hd
  by_cases hcst : x + 1 = (T j).cost
  · have y2 : ((x + 1) == (T j).cost) = true := beq_iff_eq.2 hcst
    have hov : overT (T j) = true := by unfold overT; rw [HX.out]; simp [hcst]
    have hrun : ({ ({ T j with ran := x + 1 } : CTk) with there := false } : CTk) = runT (T j) := by unfold runT; rw [HX.out, ht, hov]; rfl
    have hld : doneL (T j) j = [] := by unfold doneL; rw [HX.out]; exact if_neg hd
    have hlc : cutL (T j) j = [j] := by unfold cutL; rw [HX.out]; exact if_pos ⟨hd, hcst⟩
    have HR := Lib.hid hrun
    obtain rfl : sF = s' := by rw [← HSF.out, hov, if_pos rfl]
    obtain rfl := HLD.out.symm.trans hld
    obtain rfl := HLC.out.symm.trans hlc
    have s2 := S1.out.lis_new 3 1 1 #[.int .i64 (j : Int)] rfl (by unfold maxLen; omega)
    rw [List.append_assoc] at s2
    obtain ⟨hb, hh⟩ : ∃ hb, wq.heap.size = hb := ⟨_, rfl⟩
    rw [hh] at s2
    obtain ⟨d0, d1, d2, d3⟩ := cpu_box s2
    obtain ⟨g', off', hA2, hc2, hfr2⟩ := cpu_task s2 hj
    obtain ⟨rfl, rfl⟩ : g = g' ∧ off = off' := by rw [HA.out] at hA2; simpa using hA2
    have e6 := hc2 6 (by omega)
    have e6f := hfr2 (off + j * 10 + 6)
    have s3 := cpu_set s2 HA.out hj (show 6 < 10 by omega) (.bool false) { ({ T j with ran := x + 1 } : CTk) with there := false } (fun k hk => by
      unfold tkv
      rw [updK_self, updK_self]
      rcases (show k = 0 ∨ k = 1 ∨ k = 2 ∨ k = 3 ∨ k = 4 ∨ k = 5 ∨ k = 6 ∨ k = 7 ∨ k = 8 ∨ k = 9 by omega) with rfl | rfl | rfl | rfl | rfl | rfl | rfl | rfl | rfl | rfl <;> rfl)
    rw [updK_twice, HR.out] at s3
    have S3 := Lib.hid s3
    have HS := Lib.hid hs
    have HG := Lib.hid hG
    unfold tkv at e6
    rw [updK_self] at e6
    clear s2 s3 hc hfr hc2 hfr2 hA2 hA' hov hld hlc hrun S1 d0 d1 d3 hs hG
    go_upto_region 9 with (fail)
    generalize hz : wq.alloc (.cells #[.int .i64 (j : Int)] 3) = wz at *
    clear b0 b1 b2 b3 c1 c6 c7 c8 hz hh
    go_upto_region 10 with (fail)
    generalize wz.setCell ⟨g, off + j * 10 + 6, none⟩ (.bool false) = wy at *
    obtain ⟨d0, d1, d2, d3⟩ := cpu_box S3.out
    clear d0 d1 d3 e6 e6f
    go_wp2_with fail
    refine (Go_o (i := 3) S3.out rfl HS.out (j : Int) f HG.out).mono ?_
    rintro e w6 ⟨rfl, s6⟩
    have s6 : St w0 S0 w6 (CpuL p (updK T j (runT (T j))) V now sF ++ (X ++ [_])) := s6
    have S6 := Lib.hid s6
    clear s6 S3
    go_wp2_with fail
    go_ret2
    have s7 := S6.out
    rw [← List.append_assoc] at s7
    have s8 := (s7.comm.lis_nil 3 1).comm
    exact ⟨none, 0, 0, some ⟨hb, 0, none⟩, 1, 1, rfl, rfl, rfl, s8⟩
  · have y2 : ((x + 1) == (T j).cost) = false := beq_eq_false_iff_ne.2 hcst
    have hov : overT (T j) = false := by unfold overT; rw [HX.out, y1, y2]; rfl
    have hrun : ({ T j with ran := x + 1 } : CTk) = runT (T j) := by unfold runT; rw [HX.out, ht, hov]; simp [ht]
    have hld : doneL (T j) j = [] := by unfold doneL; rw [HX.out]; exact if_neg hd
    have hlc : cutL (T j) j = [] := by unfold cutL; rw [HX.out]; exact if_neg fun h => hcst h.2
    obtain rfl : sF = s := by rw [← HSF.out, hov, if_neg (by decide)]
    obtain rfl := HLD.out.symm.trans hld
    obtain rfl := HLC.out.symm.trans hlc
    have s2 := S1.out
    rw [hrun] at s2
    have S2 := Lib.hid (nil2 s2)
    clear s2 hc hfr hA' hov hld hlc hrun S1 hs hG
    go_wp2_with fail
    go_ret2
    exact ⟨none, 0, 0, none, 0, 0, rfl, rfl, rfl, S2.out⟩
end
end Go.Proofs.Ytdnonhhphkmlmaa
