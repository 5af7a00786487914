/- Layer 17: a processor: a server is served; the first server that can. -/
import Derived.Test.YtdnonhhphkmlmaaCpuF
import Derived.Deep.DeepCutAuto
import Derived.Deep.CutBlock
namespace Go.Proofs.Ytdnonhhphkmlmaa
open Go.RowKit
set_option linter.unusedVariables false
set_option maxRecDepth 100000
set_option maxHeartbeats 2000000
/-- What holds of a server. -/
structure SvOK (now : Int) (v : Sv) : Prop where
  s : SOK v.B v.P
  x : v.xs.length ≤ v.B
  n : v.N ≤ now
  w0 : 0 ≤ v.work
  w1 : v.work ≤ 1048576
/-- A server that is served. -/
def serveS (v : Sv) (now : Int) : Sv := { v with work := v.work - 1, N := now, xs := useL v.B v.P now v.xs }
/-- A server that was looked at. -/
def seenS (v : Sv) (now : Int) : Sv := { v with N := now, xs := notBack now v.xs }
theorem updK_twice {α : Type} (T : Nat → α) (i : Nat) (t u : α) : updK (updK T i t) i u = updK T i u := by
  funext j; unfold updK; split <;> rfl
section
variable {w0 w : World} {S0 : Nat → Prop} {X : List Res} {p : Pl} {T T' : Nat → CTk} {V V' : Nat → Sv} {now id dem : Int} {s s' : QS}
theorem cServe_c (H : St w0 S0 w (CpuL p T V now s ++ X)) {j : Nat} (hj : j < p.m) (hv : SvOK now (V j)) (hw : 0 < (V j).work) (n0 : 0 ≤ now) (n1 : now < 4611686018427387904) :
    Calls Try.prog 42 #[.pointer (some ⟨p.c, 0, none⟩), .int .i64 (j : Int)] w fun e w' => e = .returned (.tuple #[]) ∧ St w0 S0 w' (CpuL p T (updK V j (serveS (V j) now)) now s ++ X) := by
  obtain ⟨b0, b1, b2, b3⟩ := cpu_box H
  obtain ⟨g, off, hA, c0, c1, hf⟩ := cpu_server H hj
  rw [hA] at b1
  have HA := Lib.hid hA
  have HH := Lib.hid H
  have v0 : (0 : Int) ≤ (j : Int) := by omega
  have v1 : (j : Int) < (p.m : Int) := by omega
  have hs := hv.s
  unfold SOK at hs
  have hx := hv.x
  have hN := hv.n
  have hw1 := hv.w1
  have UC := Lib.hid (bud_use H.drew (4 + j) (cpu_bud hj) (by omega) hx hN n1 n0 (by omega))
  have PUT := Lib.hid (fun (W : World) (K : St w0 S0 W ((CpuL p T V now s ++ X).set (4 + j) (BudR (V j).bp (V j).B (V j).P now (useL (V j).B (V j).P now (V j).xs)))) => cpu_bput hj K)
  have qq := And.intro c0 b3
  obtain ⟨y, hy⟩ : ∃ y, (V j).work = y := ⟨_, rfl⟩
  have HY := Lib.hid hy
  rw [hy] at c1 hw hw1
  have w1 : IntKind.u64.wrap (y - 1) = y - 1 := IntWalk.u64_in _ ⟨by omega, by omega⟩
  have GET := Lib.hid (fun (W : World) (V2 : Nat → Sv) (K : St w0 S0 W (CpuL p T V2 now s ++ X)) (h2 : (V2 j).bp = (V j).bp ∧ (V2 j).work = (V j).work) => show (W.cell? ⟨g, off + j * 2, none⟩ = some (.pointer (some ⟨(V j).bp, 0, none⟩)) ∧ W.cell? ⟨p.c, 3, none⟩ = some (.int .u64 now)) ∧ W.cell? ⟨g, off + j * 2 + 1, none⟩ = some (.int .u64 y) ∧ W.frozen? ⟨g, off + j * 2 + 1, none⟩ = false from by
    obtain ⟨g', off', hA', k0, k1, kf⟩ := cpu_server K hj
    obtain ⟨rfl, rfl⟩ : g = g' ∧ off = off' := by rw [hA] at hA'; simpa using hA'
    rw [h2.1] at k0
    rw [h2.2, hy] at k1
    exact ⟨⟨k0, (cpu_box K).2.2.2⟩, k1, kf _⟩)
  clear H hA hf hv hs hx hN hy b0 b2
  go_enter Try.func42, Try.ntmps42
  go_wp2_with fail
  go_region_held3 (fun w' => w'.cell? ⟨g, off + j * 2, none⟩ = some (.pointer (some ⟨(V j).bp, 0, none⟩)) ∧ w'.cell? ⟨p.c, 3, none⟩ = some (.int .u64 now)) (go_keep)
    (first
      | (go_at_call 51; refine UC.out.mono ?_; rintro r' w6 ⟨rfl, s6⟩; have S6 := Lib.hid (PUT.out w6 s6); have q5 := GET.out w6 _ S6.out ⟨by rw [updK_self], by rw [updK_self]⟩; have q6 := q5.1; clear s6))
  obtain ⟨q7, q8⟩ := q5.2
  have FIN := Lib.hid (show St w0 S0 _ (CpuL p T (updK V j (serveS (V j) now)) now s ++ X) from by
    have h := cpu_wset S6.out HA.out hj (y - 1)
    rw [updK_twice, updK_self] at h
    unfold serveS
    rw [HY.out]
    exact h)
  clear q5 q6 qq c0 c1 b1 b3 UC PUT GET
  go_wp2_with fail
  go_end0
  exact ⟨rfl, FIN.out⟩
/-- Can it serve? -/
def canS (v : Sv) (now : Int) : Prop := 0 < v.work ∧ ((notBack now v.xs).length : Int) < v.B
/-- The servers, once the first k were looked at. -/
def seenV (V : Nat → Sv) (now : Int) (k : Nat) : Nat → Sv := fun j => if j < k ∧ 0 < (V j).work then seenS (V j) now else V j
theorem seenV_zero (V : Nat → Sv) (now : Int) : seenV V now 0 = V := by funext j; unfold seenV; rw [if_neg (by omega)]
theorem seenV_idle {V : Nat → Sv} {now : Int} {k : Nat} (h : (V k).work = 0) : seenV V now (k + 1) = seenV V now k := by
  funext j
  unfold seenV
  by_cases e : j = k
  · subst e; rw [if_neg (by omega), if_neg (by omega)]
  · by_cases h2 : j < k ∧ 0 < (V j).work
    · rw [if_pos h2, if_pos ⟨by omega, h2.2⟩]
    · rw [if_neg h2, if_neg (by omega)]
theorem seenV_step {V : Nat → Sv} {now : Int} {k : Nat} (h : 0 < (V k).work) : updK (seenV V now k) k (seenS (V k) now) = seenV V now (k + 1) := by
  funext j
  unfold updK seenV
  by_cases e : j = k
  · subst e; rw [if_pos rfl, if_pos ⟨by omega, h⟩]
  · rw [if_neg e]
    by_cases h2 : j < k ∧ 0 < (V j).work
    · rw [if_pos h2, if_pos ⟨by omega, h2.2⟩]
    · rw [if_neg h2, if_neg (by omega)]
theorem seenV_at (V : Nat → Sv) (now : Int) (k : Nat) : seenV V now k k = V k := by unfold seenV; rw [if_neg (by omega)]
/-- The first server that can. -/
def FirstSv (m : Nat) (V : Nat → Sv) (now : Int) (a : Int) (b : Bool) (V' : Nat → Sv) : Prop :=
  (∃ k, k < m ∧ canS (V k) now ∧ (∀ j, j < k → ¬ canS (V j) now) ∧ a = 100 + (k : Int) ∧ b = true ∧ V' = seenV V now (k + 1)) ∨
  ((∀ j, j < m → ¬ canS (V j) now) ∧ a = 0 ∧ b = false ∧ V' = seenV V now m)
def FsvQ (w0 : World) (S0 : Nat → Prop) (X : List Res) (p : Pl) (T : Nat → CTk) (V : Nat → Sv) (now : Int) (s : QS) (e : Ending) (w' : World) : Prop := ∃ a b V', e = .returned (.tuple #[.int .i64 a, .bool b]) ∧ FirstSv p.m V now a b V' ∧ St w0 S0 w' (CpuL p T V' now s ++ X)
theorem cFirstServer_c (H : St w0 S0 w (CpuL p T V now s ++ X)) (hv : ∀ j, j < p.m → SvOK now (V j)) (hm : p.m ≤ 100) (n0 : 0 ≤ now) (n1 : now < 4611686018427387904) :
    Calls Try.prog 45 #[.pointer (some ⟨p.c, 0, none⟩)] w (FsvQ w0 S0 X p T V now s) := by
  obtain ⟨b0, b1, b2, b3⟩ := cpu_box H
  have HH := Lib.hid H
  have HV := Lib.hid hv
  clear H hv b0 b2 b3
  go_enter Try.func45, Try.ntmps45
  go_wp2_with fail
  go_loopw [13, 4, 5, 6, 7] (fun x13 x4 x5 x6 x7 wr => ∃ k : Nat, k ≤ p.m ∧ x13 = .int .i64 k ∧ (∀ j, j < k → ¬ canS (V j) now) ∧ St w0 S0 wr (CpuL p T (seenV V now k) now s ++ X)) (fun x _ _ _ _ _ => p.m - (intOf x).toNat)
  case atStart => exact ⟨0, by omega, rfl, fun j hj => by omega, by rw [seenV_zero]; exact HH.out⟩
  case round =>
  clear HH
  obtain ⟨k, hk, rfl, hno, sr⟩ := hrel
  have HNO := Lib.hid hno
  clear hno
  by_cases hlt : k < p.m
  · obtain ⟨g, off, hA, c0, c1, hf⟩ := cpu_server sr hlt
    rw [seenV_at] at c0 c1
    have hvk := HV.out k hlt
    have hs := hvk.s
    unfold SOK at hs
    have hx := hvk.x
    have hN := hvk.n
    have hw0 := hvk.w0
    have z0 : decide ((k : Int) < (p.m : Int)) = true := decide_eq_true (by omega)
    have z0' : decide (k < p.m) = true := decide_eq_true hlt
    have c2 := (cpu_box sr).2.2.2
    rw [hA]
    obtain ⟨y, hy⟩ : ∃ y, (V k).work = y := ⟨_, rfl⟩
    have HY := Lib.hid hy
    rw [hy] at c1 hw0
    have s2 := sr.box 76 #[.pointer (some ⟨(V k).bp, 0, none⟩), .int .u64 y]
    obtain ⟨h, hh⟩ : ∃ h, wr.heap.size = h := ⟨_, rfl⟩
    rw [hh] at s2
    rw [List.append_assoc] at s2
    have S2 := Lib.hid s2
    have hbx := Lib.hid (fun (W : World) (V2 : Nat → Sv) (K : St w0 S0 W (CpuL p T V2 now s ++ (X ++ [BlkR h 76 #[.pointer (some ⟨(V k).bp, 0, none⟩), .int .u64 y]]))) => show (W.cell? ⟨h, 0, none⟩ = some (.pointer (some ⟨(V k).bp, 0, none⟩)) ∧ W.cell? ⟨p.c, 3, none⟩ = some (.int .u64 now)) ∧ W.cell? ⟨h, 1, none⟩ = some (.int .u64 y) from by
      have hi : (CpuL p T V2 now s ++ (X ++ [BlkR h 76 #[.pointer (some ⟨(V k).bp, 0, none⟩), .int .u64 y]]))[(CpuL p T V2 now s).length + X.length]? = some (BlkR h 76 #[.pointer (some ⟨(V k).bp, 0, none⟩), .int .u64 y]) := by
        rw [List.getElem?_append_right (by omega), List.getElem?_append_right (by omega)]; simp
      have hb := (K.blk _ hi).two
      exact ⟨⟨hb.1, (cpu_box K).2.2.2⟩, hb.2⟩)
    have TAKE := Lib.hid (fun (W : World) (V2 : Nat → Sv) (K : St w0 S0 W (CpuL p T V2 now s ++ (X ++ [BlkR h 76 #[.pointer (some ⟨(V k).bp, 0, none⟩), .int .u64 y]]))) => show St w0 S0 W (CpuL p T V2 now s ++ X) from by
      rw [← List.append_assoc] at K
      have := K.take (CpuL p T V2 now s ++ X).length
      rwa [List.take_left] at this)
    obtain ⟨⟨k0, k2⟩, k1⟩ := hbx.out _ _ s2
    have LC := Lib.hid (fun (W : World) (K : St w0 S0 W (CpuL p T (seenV V now k) now s ++ (X ++ [BlkR h 76 #[.pointer (some ⟨(V k).bp, 0, none⟩), .int .u64 y]]))) => bud_left K (b := (V k).bp) (B := (V k).B) (P := (V k).P) (N := (V k).N) (xs := (V k).xs) (4 + k) (by have := cpu_bud (T := T) (V := seenV V now k) (now := now) (s := s) (X := X ++ [BlkR h 76 #[.pointer (some ⟨(V k).bp, 0, none⟩), .int .u64 y]]) hlt; unfold bdR at this; rw [seenV_at] at this; exact this) (by omega) hx hN n1)
    have PUT := Lib.hid (fun (W : World) (hw : 0 < (V k).work) (K : St w0 S0 W ((CpuL p T (seenV V now k) now s ++ (X ++ [BlkR h 76 #[.pointer (some ⟨(V k).bp, 0, none⟩), .int .u64 y]])).set (4 + k) (BudR (V k).bp (V k).B (V k).P now (notBack now (V k).xs)))) => show St w0 S0 W (CpuL p T (seenV V now (k + 1)) now s ++ (X ++ [BlkR h 76 #[.pointer (some ⟨(V k).bp, 0, none⟩), .int .u64 y]])) from by
      rw [← seenV_step hw]
      have h2 := cpu_bput (V := seenV V now k) (N' := now) (xs' := notBack now (V k).xs) hlt (by rw [seenV_at]; exact K)
      rw [seenV_at] at h2
      exact h2)
    clear sr s2 hf hA hvk hy
    go_upto_region 4 with (fail)
    generalize wr.alloc (.cells #[.pointer (some ⟨(V k).bp, 0, none⟩), .int .u64 y] 76) = wq at *
    by_cases hy0 : y = 0
    · subst hy0
      have SR := Lib.hid (TAKE.out _ _ S2.out)
      have NO2 := Lib.hid (show ∀ j, j < k + 1 → ¬ canS (V j) now from fun j hj => by
        rcases Nat.lt_or_ge j k with h1 | h1
        · exact HNO.out j h1
        · obtain rfl : j = k := by omega
          intro hc
          have := hc.1
          rw [HY.out] at this; omega)
      have EQ := Lib.hid (seenV_idle (V := V) (now := now) HY.out)
      clear k0 c0 c1 c2 LC PUT TAKE hbx S2
      go_wp2_with fail
      go_roundw
      case rel => exact ⟨k + 1, by omega, by go_num, NO2.out, by rw [EQ.out]; exact SR.out⟩
      case measure => simp [intOf]; omega
    · have y1 : (y == 0) = false := beq_eq_false_iff_ne.2 hy0
      have HW := Lib.hid (show 0 < (V k).work by rw [HY.out]; omega)
      have qq := And.intro k0 k2
      clear c0 c1 c2
      go_wp2_with fail
      go_region_held3 (fun w' => w'.cell? ⟨h, 0, none⟩ = some (.pointer (some ⟨(V k).bp, 0, none⟩)) ∧ w'.cell? ⟨p.c, 3, none⟩ = some (.int .u64 now)) (go_keep)
        (first
          | (go_at_call 53; refine (LC.out _ S2.out.drew).mono ?_; rintro r' w6 ⟨rfl, s6⟩; have S6 := Lib.hid (PUT.out w6 HW.out s6); have q6 := (hbx.out w6 _ S6.out).1; clear s6))
      have SR := Lib.hid (TAKE.out _ _ S6.out)
      clear k0 k1 k2 qq q6 S2 S6 LC PUT TAKE hbx
      by_cases hc : ((notBack now (V k).xs).length : Int) < (V k).B
      · have y2 : decide (0 < (V k).B - ((notBack now (V k).xs).length : Int)) = true := decide_eq_true (by omega)
        have y3 : decide (((notBack now (V k).xs).length : Int) < (V k).B) = true := decide_eq_true hc
        have w1 : IntKind.i64.wrap (100 + (k : Int)) = 100 + (k : Int) := IntWalk.i64_in _ ⟨by omega, by omega⟩
        have HC := Lib.hid hc
        clear hc
        go_wp2_with fail
        go_ret2
        exact ⟨_, _, _, rfl, Or.inl ⟨k, hlt, ⟨HW.out, HC.out⟩, HNO.out, rfl, rfl, rfl⟩, SR.out⟩
      · have y2 : decide (0 < (V k).B - ((notBack now (V k).xs).length : Int)) = false := decide_eq_false (by omega)
        have y3 : decide (((notBack now (V k).xs).length : Int) < (V k).B) = false := decide_eq_false hc
        have NO2 := Lib.hid (show ∀ j, j < k + 1 → ¬ canS (V j) now from fun j hj => by
          rcases Nat.lt_or_ge j k with h1 | h1
          · exact HNO.out j h1
          · obtain rfl : j = k := by omega
            intro h2
            exact hc h2.2)
        clear hc
        go_wp2_with fail
        go_roundw
        case rel => exact ⟨k + 1, by omega, by go_num, NO2.out, SR.out⟩
        case measure => simp [intOf]; omega
  · obtain rfl : k = p.m := by omega
    have z0 : decide ((p.m : Int) < (p.m : Int)) = false := decide_eq_false (by omega)
    have SR := Lib.hid sr
    clear sr hlt
    go_wp2_with fail
    go_ret2
    exact ⟨0, false, _, rfl, Or.inr ⟨HNO.out, rfl, rfl, rfl⟩, SR.out⟩
end
end Go.Proofs.Ytdnonhhphkmlmaa
