/- Layer 13: a controller anew. -/
import Derived.Test.YtaoioejgealciaaIrqH
import Derived.Test.YtaoioejgealciaaRd
namespace Go.Proofs.Ytaoioejgealciaa
open Go.RowKit
set_option linter.unusedVariables false
set_option maxRecDepth 100000
set_option maxHeartbeats 2000000
/-- A controller that has more gatherers than lines, and more lines than buckets. -/
def IL2 (c mg mb : Nat) (V : Nat → Value) (ls : Nat → Ln) (gb bb : Nat → Nat) (X : List Res) : List Res :=
  ([ArrR c 58 210 V] ++ (List.range mg).map (IG ls gb)) ++ (([] ++ (List.range mb).map (IB ls bb)) ++ X)
def lsN (cf : Nat → Nat → Int) (k : Nat) : Ln := Ln.new (cf k 0) (cf k 1) (cf k 2) (cf k 3) (cf k 4) (cf k 5)
section
variable {w0 w w1 w' : World} {S0 S : Nat → Prop} {L X N : List Res} {c n m i k mg mb : Nat} {now t : Int} {ls : Nat → Ln} {gb bb : Nat → Nat} {V : Nat → Value}
theorem il2_x {R : Res} (hx : X[k]? = some R) : (IL2 c mg mb V ls gb bb X)[1 + mg + mb + k]? = some R := by
  unfold IL2
  rw [List.getElem?_append_right (by simp; omega), List.getElem?_append_right (by simp; omega)]
  have e : 1 + mg + mb + k - ([ArrR c 58 210 V] ++ (List.range mg).map (IG ls gb)).length - ([] ++ (List.range mb).map (IB ls bb)).length = k := by simp; omega
  rw [e]; exact hx
theorem il2_gat {g : Nat} (h : St w0 S0 w (((([] ++ (List.range mb).map (IB ls bb)) ++ X) ++ ([ArrR c 58 210 V] ++ (List.range mg).map (IG ls gb))) ++ [GatR g (ls mg).C (ls mg).H (ls mg).N (ls mg).ws])) :
    St w0 S0 w (IL2 c (mg + 1) mb V ls (updL gb mg g) bb X) := by
  rw [← List.append_assoc (([] ++ (List.range mb).map (IB ls bb)) ++ X)] at h
  have h1 := h.fam_snoc (F' := IG ls (updL gb mg g)) (GatR.ok _ _ _ _ _) (fun i hi => by unfold IG updL; rw [if_neg (by omega)]) (fun S hS => by unfold IG updL; rw [if_pos rfl]; exact hS)
  rw [List.append_assoc] at h1
  exact h1.comm
theorem il2_comm (h : St w0 S0 w (IL2 c mg mb V ls gb bb X)) : St w0 S0 w ((([] ++ (List.range mb).map (IB ls bb)) ++ X) ++ ([ArrR c 58 210 V] ++ (List.range mg).map (IG ls gb))) := h.comm
theorem il2_comm2 (h : St w0 S0 w (IL2 c mg mb V ls gb bb X)) : St w0 S0 w (X ++ (([ArrR c 58 210 V] ++ (List.range mg).map (IG ls gb)) ++ ([] ++ (List.range mb).map (IB ls bb)))) := by
  unfold IL2 at h
  rw [← List.append_assoc] at h
  exact h.comm
theorem il2_buc {b : Nat} (h : St w0 S0 w ((X ++ (([ArrR c 58 210 V] ++ (List.range mg).map (IG ls gb)) ++ ([] ++ (List.range mb).map (IB ls bb)))) ++ [BlkR b 75 (bk (ls mb))])) :
    St w0 S0 w (IL2 c mg (mb + 1) V ls gb (updL bb mb b) X) := by
  rw [List.nil_append, ← List.append_assoc X] at h
  have h1 := h.fam_snoc (F' := IB ls (updL bb mb b)) (BlkR.ok _ _ _) (fun i hi => by unfold IB updL; rw [if_neg (by omega)]) (fun S hS => by unfold IB updL; rw [if_pos rfl]; exact hS)
  rw [List.append_assoc] at h1
  have h2 := h1.comm
  unfold IL2
  rw [List.nil_append, ← List.append_assoc]
  exact h2
theorem il2_put (h : St w0 S0 w (IL2 c mg mb V ls gb bb X)) (hk : k < 210) (u : Value) : St w0 S0 (w.setCell ⟨c, k, none⟩ u) (IL2 c mg mb (fun j => if j = k then u else V j) ls gb bb X) :=
  h.arr_set 0 rfl hk u
theorem cv_line {cf : Nat → Nat → Int} {gn bn : Nat} (hk : k < 16) (j : Nat) (hj : j < 210) : cv n (k + 1) 0 (lsN cf) (updL gb k gn) (updL bb k bn) j = (if j = k * 13 + 12 then .int .i64 0 else (if j = k * 13 + 11 then .int .u64 0 else (if j = k * 13 + 10 then .bool false else (if j = k * 13 + 9 then .int .i64 0 else (if j = k * 13 + 8 then .int .i64 0 else (if j = k * 13 + 7 then .pointer (some ⟨bn, 0, none⟩) else (if j = k * 13 + 6 then .pointer (some ⟨gn, 0, none⟩) else (if j = k * 13 + 5 then .int .u64 (cf k 5) else (if j = k * 13 + 4 then .int .i64 (cf k 4) else (if j = k * 13 + 3 then .int .u64 (cf k 3) else (if j = k * 13 + 2 then .int .i64 (cf k 2) else (if j = k * 13 + 1 then .int .u64 (cf k 1) else (if j = k * 13 then .int .i64 (cf k 0) else cv n k 0 (lsN cf) gb bb j))))))))))))) := by
  by_cases h : k * 13 ≤ j ∧ j < k * 13 + 13
  · obtain ⟨q, rfl⟩ : ∃ q, j = k * 13 + q := ⟨j - k * 13, by omega⟩
    have hq : q < 13 := by omega
    rw [cv_at (by omega) hk hq, updL_same, updL_same]
    have hc : q = 0 ∨ q = 1 ∨ q = 2 ∨ q = 3 ∨ q = 4 ∨ q = 5 ∨ q = 6 ∨ q = 7 ∨ q = 8 ∨ q = 9 ∨ q = 10 ∨ q = 11 ∨ q = 12 := by omega
    rcases hc with rfl | rfl | rfl | rfl | rfl | rfl | rfl | rfl | rfl | rfl | rfl | rfl | rfl <;> simp [lnCell, lsN, Ln.new]
  · rw [if_neg (by omega)]; rw [if_neg (by omega)]; rw [if_neg (by omega)]; rw [if_neg (by omega)]; rw [if_neg (by omega)]; rw [if_neg (by omega)]; rw [if_neg (by omega)]; rw [if_neg (by omega)]; rw [if_neg (by omega)]; rw [if_neg (by omega)]; rw [if_neg (by omega)]; rw [if_neg (by omega)]; rw [if_neg (by omega)]
    unfold cv
    by_cases h1 : j = 208
    · rw [if_pos h1, if_pos h1]
    by_cases h2 : j = 209
    · rw [if_neg h1, if_neg h1, if_pos h2, if_pos h2]
    rw [if_neg h1, if_neg h1, if_neg h2, if_neg h2]
    by_cases h3 : j / 13 < k
    · rw [if_pos h3, if_pos (by omega)]; unfold updL; rw [if_neg (by omega), if_neg (by omega)]
    · rw [if_neg h3, if_neg (by omega)]
/-- A line is laid. -/
theorem il2_line {cf : Nat → Nat → Int} {gn bn : Nat} (hk : k < 16) (h : St w0 S0 w (IL2 c (k + 1) (k + 1) (cv n k 0 (lsN cf) gb bb) (lsN cf) (updL gb k gn) (updL bb k bn) (X ++ N))) :
    St w0 S0 (((((((((((((w.setCell ⟨c, k * 13, none⟩ (.int .i64 (cf k 0))).setCell ⟨c, k * 13 + 1, none⟩ (.int .u64 (cf k 1))).setCell ⟨c, k * 13 + 2, none⟩ (.int .i64 (cf k 2))).setCell ⟨c, k * 13 + 3, none⟩ (.int .u64 (cf k 3))).setCell ⟨c, k * 13 + 4, none⟩ (.int .i64 (cf k 4))).setCell ⟨c, k * 13 + 5, none⟩ (.int .u64 (cf k 5))).setCell ⟨c, k * 13 + 6, none⟩ (.pointer (some ⟨gn, 0, none⟩))).setCell ⟨c, k * 13 + 7, none⟩ (.pointer (some ⟨bn, 0, none⟩))).setCell ⟨c, k * 13 + 8, none⟩ (.int .i64 0)).setCell ⟨c, k * 13 + 9, none⟩ (.int .i64 0)).setCell ⟨c, k * 13 + 10, none⟩ (.bool false)).setCell ⟨c, k * 13 + 11, none⟩ (.int .u64 0)).setCell ⟨c, k * 13 + 12, none⟩ (.int .i64 0)) (IL c n (k + 1) 0 (lsN cf) (updL gb k gn) (updL bb k bn) X) := by
  have h1 := (il2_put (il2_put (il2_put (il2_put (il2_put (il2_put (il2_put (il2_put (il2_put (il2_put (il2_put (il2_put (il2_put h (k := k * 13) (by omega) (.int .i64 (cf k 0))) (k := k * 13 + 1) (by omega) (.int .u64 (cf k 1))) (k := k * 13 + 2) (by omega) (.int .i64 (cf k 2))) (k := k * 13 + 3) (by omega) (.int .u64 (cf k 3))) (k := k * 13 + 4) (by omega) (.int .i64 (cf k 4))) (k := k * 13 + 5) (by omega) (.int .u64 (cf k 5))) (k := k * 13 + 6) (by omega) (.pointer (some ⟨gn, 0, none⟩))) (k := k * 13 + 7) (by omega) (.pointer (some ⟨bn, 0, none⟩))) (k := k * 13 + 8) (by omega) (.int .i64 0)) (k := k * 13 + 9) (by omega) (.int .i64 0)) (k := k * 13 + 10) (by omega) (.bool false)) (k := k * 13 + 11) (by omega) (.int .u64 0)) (k := k * 13 + 12) (by omega) (.int .i64 0))
  have h2 := h1.arr_like (V' := cv n (k + 1) 0 (lsN cf) (updL gb k gn) (updL bb k bn)) 0 rfl (fun j hj => cv_line hk j hj)
  have h3 : St w0 S0 (((((((((((((w.setCell ⟨c, k * 13, none⟩ (.int .i64 (cf k 0))).setCell ⟨c, k * 13 + 1, none⟩ (.int .u64 (cf k 1))).setCell ⟨c, k * 13 + 2, none⟩ (.int .i64 (cf k 2))).setCell ⟨c, k * 13 + 3, none⟩ (.int .u64 (cf k 3))).setCell ⟨c, k * 13 + 4, none⟩ (.int .i64 (cf k 4))).setCell ⟨c, k * 13 + 5, none⟩ (.int .u64 (cf k 5))).setCell ⟨c, k * 13 + 6, none⟩ (.pointer (some ⟨gn, 0, none⟩))).setCell ⟨c, k * 13 + 7, none⟩ (.pointer (some ⟨bn, 0, none⟩))).setCell ⟨c, k * 13 + 8, none⟩ (.int .i64 0)).setCell ⟨c, k * 13 + 9, none⟩ (.int .i64 0)).setCell ⟨c, k * 13 + 10, none⟩ (.bool false)).setCell ⟨c, k * 13 + 11, none⟩ (.int .u64 0)).setCell ⟨c, k * 13 + 12, none⟩ (.int .i64 0)) (IL c n (k + 1) 0 (lsN cf) (updL gb k gn) (updL bb k bn) (X ++ N)) := h2
  exact il_less h3
def iZ : Array Value := ((List.range 210).map (cv 0 0 0 (fun _ => Ln.new 0 0 0 0 0 0) (fun _ => 0) (fun _ => 0))).toArray
theorem zero_i (w : World) : (zeroValue 58).run Try.prog w = .ok (.agg iZ) w := by kernel_rfl
theorem begin_il (w : World) (n : Nat) (ls : Nat → Ln) : St w None (w.alloc (.cells (iZ.setIfInBounds 208 (.int .i64 (n : Int))) 58)) (IL w.heap.size n 0 0 ls (fun _ => 0) (fun _ => 0) []) := by
  have h := (St.begin w).box_arr 58 (iZ.setIfInBounds 208 (.int .i64 (n : Int))) 210 (cv n 0 0 ls (fun _ => 0) (fun _ => 0)) (by simp [iZ]) (fun i hi => by
    by_cases e : i = 208
    · subst e; simp [iZ, cv]
    · rw [Array.getElem?_setIfInBounds_ne (by omega)]
      have e2 : iZ[i]? = some (cv 0 0 0 (fun _ => Ln.new 0 0 0 0 0 0) (fun _ => 0) (fun _ => 0) i) := by simp [iZ, hi]
      rw [e2]; unfold cv; rw [if_neg e, if_neg e]; simp)
  exact h
theorem New_c (A : Option Addr) (cap : Nat) (V : Nat → Nat → Value) (rd : RdM w A n 6 V) (cf : Nat → Nat → Int)
    (hV : ∀ k, k < n → V k 0 = .int .i64 (cf k 0) ∧ V k 1 = .int .u64 (cf k 1) ∧ V k 2 = .int .i64 (cf k 2) ∧ V k 3 = .int .u64 (cf k 3) ∧ V k 4 = .int .i64 (cf k 4) ∧ V k 5 = .int .u64 (cf k 5))
    (hmay : ∀ k, k < n → mayL (cf k 0) (cf k 1) (cf k 2) (cf k 3) (cf k 4) (cf k 5)) (h1 : 1 ≤ n) (h16 : n ≤ 16) :
    Calls Try.prog 10 #[.slice A n cap] w fun e w' => ∃ c gb bb, e = .returned (.tuple #[.pointer (some ⟨c, 0, none⟩), .int .i64 0]) ∧ St w None w' (IL c n n 0 (lsN cf) gb bb []) := by
  have zq := zero_i
  have zs : iZ.size = 210 := by simp [iZ]
  have d1 : decide ((n : Int) < 1) = false := decide_eq_false (by omega)
  have d2 : decide ((16 : Int) < (n : Int)) = false := decide_eq_false (by omega)
  have HV := Lib.hid hV
  have HM := Lib.hid hmay
  have RD := Lib.hid rd
  clear hV hmay rd
  go_enter Try.func10, Try.ntmps10
  go_wp2_with fail
  have s0 := begin_il w n (lsN cf)
  clear zq zs
  go_loopw [25] (fun x wr => ∃ (k : Nat) (gb bb : Nat → Nat), k ≤ n ∧ x = .int .i64 k ∧ St w None wr (IL w.heap.size n k 0 (lsN cf) gb bb [])) (fun x _ => n - (intOf x).toNat)
  case atStart => exact ⟨0, _, _, by omega, rfl, s0⟩
  case round =>
    clear s0
    obtain ⟨k, gb, bb, hkn, rfl, sr⟩ := hrel
    by_cases hlt : k < n
    · obtain ⟨ib, off, rfl, hc⟩ := RD.out.at_ sr.below hlt
      obtain ⟨v0, v1, v2, v3, v4, v5⟩ := HV.out k hlt
      have e0 := hc 0 (by omega)
      have e1 := hc 1 (by omega)
      have e2 := hc 2 (by omega)
      have e3 := hc 3 (by omega)
      have e4 := hc 4 (by omega)
      have e5 := hc 5 (by omega)
      rw [v0] at e0
      rw [v1] at e1
      rw [v2] at e2
      rw [v3] at e3
      rw [v4] at e4
      rw [v5] at e5
      rw [Nat.add_zero] at e0
      have k0 : (0 : Int) ≤ (k : Int) := by omega
      have k1 : (k : Int) < 16 := by omega
      have k2 : (k : Int) < (n : Int) := by omega
      have s1 := sr.box 24 #[.int .i64 (cf k 0), .int .u64 (cf k 1), .int .i64 (cf k 2), .int .u64 (cf k 3), .int .i64 (cf k 4), .int .u64 (cf k 5)]
      rw [il_app] at s1
      have S1 := Lib.hid s1
      have MY := Lib.hid (HM.out k hlt)
      generalize hg1 : wr.heap.size = g1 at s1 S1
      clear s1 sr hc v0 v1 v2 v3 v4 v5
      go_wp2_with (go_at_call 21; refine (imay_yes _ _ _ _ _ _ _ MY.out).mono ?_; rintro e w1 ⟨rfl, hb1⟩; have s2 := S1.out.stay hb1; obtain ⟨a0, a1, a2, a3, a4, a5⟩ := (s2.blk (1 + k + k + 0) (il_x rfl)).six; have NG := Lib.hid (gat_new (il2_comm (V := cv n k 0 (lsN cf) gb bb) s2) MY.out.1); clear hb1 s2)
      refine NG.out.mono ?_
      rintro e w2 ⟨gn, rfl, s2⟩
      have t2 := il2_gat (ls := lsN cf) s2
      obtain ⟨b0, b1, b2, b3, b4, b5⟩ := (t2.blk (1 + (k + 1) + k + 0) (il2_x rfl)).six
      have NB := Lib.hid (bnew_o (il2_comm2 t2) MY.out.2.1)
      clear s2 t2 NG a0 a1 a2 a3 a4 a5
      go_wp2_with fail
      refine NB.out.mono ?_
      rintro e w3 ⟨bn, rfl, s3⟩
      have t3 := il2_buc (ls := lsN cf) s3
      obtain ⟨c0, c1, c2, c3, c4, c5⟩ := (t3.blk (1 + (k + 1) + (k + 1) + 0) (il2_x rfl)).six
      have fz := fun q => t3.arr_frozen 0 rfl (k * 13 + q)
      have oc : ∀ q, q < 13 → w3.cell? ⟨w.heap.size, k * 13 + q, none⟩ = some (noCell q) := fun q hq => by
        rw [t3.arr_cell 0 rfl (by omega)]
        unfold cv
        rw [if_neg (by omega), if_neg (by omega), if_neg (by omega), show (k * 13 + q) % 13 = q by omega]
      have o0 := oc 0 (by decide); have o1 := oc 1 (by decide); have o2 := oc 2 (by decide); have o3 := oc 3 (by decide); have o4 := oc 4 (by decide); have o5 := oc 5 (by decide); have o6 := oc 6 (by decide); have o7 := oc 7 (by decide); have o8 := oc 8 (by decide); have o9 := oc 9 (by decide); have o10 := oc 10 (by decide); have o11 := oc 11 (by decide); have o12 := oc 12 (by decide)
      have f0 := fz 0; have f1 := fz 1; have f2 := fz 2; have f3 := fz 3; have f4 := fz 4; have f5 := fz 5; have f6 := fz 6; have f7 := fz 7; have f8 := fz 8; have f9 := fz 9; have f10 := fz 10; have f11 := fz 11; have f12 := fz 12
      rw [Nat.add_zero] at o0 f0
      have T3 := Lib.hid t3
      clear s3 t3 NB b0 b1 b2 b3 b4 b5 fz oc
      go_wp2_with fail
      go_region
      go_wp2_with fail
      go_roundw
      case rel =>
        have hx := il2_line (w := w3) (w0 := w) (S0 := None) (X := []) (N := [BlkR g1 24 #[.int .i64 (cf k 0), .int .u64 (cf k 1), .int .i64 (cf k 2), .int .u64 (cf k 3), .int .i64 (cf k 4), .int .u64 (cf k 5)]]) (c := w.heap.size) (n := n) (cf := cf) (gn := gn) (bn := bn) (gb := gb) (bb := bb) (k := k) (by omega) T3.out
        exact ⟨k + 1, updL gb k gn, updL bb k bn, by omega, by go_num, hx.drew⟩
      case measure => simp [intOf]; omega
    · obtain rfl : k = n := by omega
      have SR := Lib.hid sr
      clear sr
      go_wp2_with fail
      go_ret2
      exact ⟨_, gb, bb, rfl, SR.out⟩
end
end Go.Proofs.Ytaoioejgealciaa
