/- Layer 9: what the document fixes; descriptors read out of lists. -/
import Derived.Test.YtninpnlmmaleaaaDescI
namespace Go.Proofs.Ytninpnlmmaleaaa
open Go.RowKit
set_option linter.unusedVariables false
set_option maxRecDepth 100000
set_option maxHeartbeats 1000000
section
variable {w0 w : World} {S0 : Nat → Prop} {L : List Res}
theorem lis_cap {A : Option Addr} {n cap e size : Nat} {xs : List Value} (h : Lis w e size (.slice A n cap) n xs) : n ≤ cap ∧ cap ≤ maxLen := by
  obtain ⟨A', cap', hv, h1, h2⟩ := h.shape
  injection hv with _ _ hc
  subst hc
  exact ⟨h1, h2⟩
theorem from_xs {B : Option Addr} {n cap : Nat} {xs : List Int} (H : St w0 S0 w L) (i : Nat) (hi : L[i]? = some (LisR 5 1 (.slice B n cap) n (bys xs))) (hx : ∀ j, j < n → 0 ≤ xs.getD j 0 ∧ xs.getD j 0 < 256) (d : Dsc) (c : Int)
    (hD : (isD (fun j => xs.getD j 0) n ∧ d = dec (fun j => xs.getD j 0) ∧ c = 0) ∨ (¬ isD (fun j => xs.getD j 0) n ∧ d = Dsc.zero ∧ c = 9)) :
    Calls Try.prog 15 #[.slice B n cap] w fun e w' => e = .returned (.tuple #[d.v, .int .i64 c]) ∧ St w0 S0 w' L :=
  looks (from_c (rd_bys (H.lis i hi)) hx (lis_cap (H.lis i hi)) d c hD) H
theorem full_isD {d : Dsc} (hd : d.may) : isD (fun j => d.fullL.getD j 0) 20 ∧ dec (fun j => d.fullL.getD j 0) = d := by
  have h : ∀ j, j < 20 → (fun j => d.fullL.getD j 0) j = d.full j := fun j hj => fullL_at d j hj
  exact ⟨(isD_like h).2 (isD_full hd), by rw [dec_like h, dec_full hd]⟩
theorem from_full {B : Option Addr} {cap : Nat} {d : Dsc} (hd : d.may) (H : St w0 S0 w L) (i : Nat) (hi : L[i]? = some (LisR 5 1 (.slice B 20 cap) 20 (bys d.fullL))) :
    Calls Try.prog 15 #[.slice B 20 cap] w fun e w' => e = .returned (.tuple #[d.v, .int .i64 0]) ∧ St w0 S0 w' L :=
  from_xs H i hi (fun j hj => by rw [fullL_at d j hj]; exact full_bd hd j) d 0 (Or.inl ⟨(full_isD hd).1, (full_isD hd).2.symm, rfl⟩)
theorem from_nil (w : World) : Calls Try.prog 15 #[.slice none 0 0] w fun e w' => e = .returned (.tuple #[Dsc.zero.v, .int .i64 9]) ∧ Below w.heap.size w w' :=
  from_c (f := fun _ => 0) (fun h => absurd h (by omega)) (fun j hj => by omega) ⟨Nat.le_refl _, by unfold maxLen; omega⟩ Dsc.zero 9 (Or.inr ⟨fun h => absurd h.1 (by omega), rfl, rfl⟩)
def d0 : Dsc := ⟨3, 258, 0, 0, 0, 5, true, false, 0⟩
theorem d0_may : d0.may := by decide
theorem awake_any (w : World) : Calls Try.prog 9 #[] w fun e w' => e = .returned (.bool true) ∧ Below w.heap.size w w' := by
  have Y := Lib.hid (bytes_yes d0 d0_may (St.begin w))
  have HV : d0.v = .agg #[.int .i64 3, .int .i64 258, .int .i64 0, .int .u64 0, .int .i64 0, .int .i64 5, .bool true, .bool false, .int .i64 0] := rfl
  rw [HV] at Y
  go_enter Try.func9, Try.ntmps9
  go_wp2_with fail
  refine Y.out.mono ?_
  rintro e w1 ⟨B, c, rfl, s1'⟩
  have s1 : St w None w1 [_] := s1'
  clear s1' Y
  have F := Lib.hid (from_full d0_may s1 0 rfl)
  rw [HV] at F
  go_wp2_with fail
  refine F.out.mono ?_
  rintro e w2 ⟨rfl, s2⟩
  clear s1 F
  have s3 : St w None _ [_, _] := s2.box 26 d0.cells
  have N := Lib.hid (fun w => from_nil w)
  have HZ : Dsc.zero.v = .agg #[.int .i64 0, .int .i64 0, .int .i64 0, .int .u64 0, .int .i64 0, .int .i64 0, .bool false, .bool false, .int .i64 0] := rfl
  rw [HZ] at N
  go_wp2_with fail
  refine (N.out _).mono ?_
  rintro e w4 ⟨rfl, hb4⟩
  have s4 := s3.stay hb4
  clear s3 s2 hb4 N
  generalize w2.heap.size = g at *
  have s5 : St w None (w4.alloc (.cells #[.int .i64 0, .int .i64 0, .int .i64 0, .int .u64 0, .int .i64 0, .int .i64 0, .bool false, .bool false, .int .i64 0] 26)) [_, _, _] := (s4.box 26 Dsc.zero.cells)
  have s6 : St w None ((w4.alloc (.cells #[.int .i64 0, .int .i64 0, .int .i64 0, .int .u64 0, .int .i64 0, .int .i64 0, .bool false, .bool false, .int .i64 0] 26)).alloc (.cells #[.int .u8 1, .int .u8 2] 5)) [_, _, BlkR w4.heap.size 26 Dsc.zero.cells, BlkR (w4.heap.size + 1) 5 #[.int .u8 1, .int .u8 2]] := s4.box2 26 5 Dsc.zero.cells #[.int .u8 1, .int .u8 2]
  obtain ⟨A', cap', hv, -, -, -, hcell⟩ := s5.lis_cells 0 rfl
  injection hv with hv1 _ hv2
  subst hv1 hv2
  obtain ⟨b, off, rfl, hcc⟩ := hcell.resolve_left (by omega)
  have q0 : (w4.alloc (.cells #[.int .i64 0, .int .i64 0, .int .i64 0, .int .u64 0, .int .i64 0, .int .i64 0, .bool false, .bool false, .int .i64 0] 26)).cell? ⟨b, off, none⟩ = some (.int .u8 19) := hcc 0 _ rfl
  have q2 : (w4.alloc (.cells #[.int .i64 0, .int .i64 0, .int .i64 0, .int .u64 0, .int .i64 0, .int .i64 0, .bool false, .bool false, .int .i64 0] 26)).cell? ⟨b, off + 2, none⟩ = some (.int .u8 1) := hcc 2 _ rfl
  have q3 : (w4.alloc (.cells #[.int .i64 0, .int .i64 0, .int .i64 0, .int .u64 0, .int .i64 0, .int .i64 0, .bool false, .bool false, .int .i64 0] 26)).cell? ⟨b, off + 3, none⟩ = some (.int .u8 2) := hcc 3 _ rfl
  have r1 : (w4.alloc (.cells #[.int .i64 0, .int .i64 0, .int .i64 0, .int .u64 0, .int .i64 0, .int .i64 0, .bool false, .bool false, .int .i64 0] 26)).cell? ⟨g, 1, none⟩ = some (.int .i64 258) := (dsc_cells d0 _ g (s5.blk 1 rfl)).2.1
  have rdk : Rd ((w4.alloc (.cells #[.int .i64 0, .int .i64 0, .int .i64 0, .int .u64 0, .int .i64 0, .int .i64 0, .bool false, .bool false, .int .i64 0] 26)).alloc (.cells #[.int .u8 1, .int .u8 2] 5)) (some ⟨w4.heap.size + 1, 0, none⟩) 2 (fun j => .int .u8 ([(1 : Int), 2].getD j 0)) := by
    intro _
    refine ⟨_, _, rfl, (s6.blk 3 rfl).lt, fun j hj => ?_⟩
    rw [Nat.zero_add, (s6.blk 3 rfl).cell]
    match j, hj with
    | 0, _ => rfl
    | 1, _ => rfl
  have CK := Lib.hid (check_c (n := 2) (cap := 2) (f := fun j => [(1 : Int), 2].getD j 0) rdk (fun j hj => by match j, hj with
    | 0, _ => simp
    | 1, _ => simp) (by omega))
  have S6 := Lib.hid s6
  clear s6 s5 s4 hcell hcc rdk
  go_wp2_with fail
  refine CK.out.mono ?_
  rintro e w7 ⟨rfl, rfl⟩
  go_wp2_with fail
  go_ret
  exact ⟨rfl, S6.out.below⟩
theorem St.box3 {w0 w : World} {S0 : Nat → Prop} {L : List Res} (h : St w0 S0 w L) (t1 t2 t3 : TypeId) (c1 c2 c3 : Array Value) : St w0 S0 (((w.alloc (.cells c1 t1)).alloc (.cells c2 t2)).alloc (.cells c3 t3)) (L ++ [BlkR w.heap.size t1 c1] ++ [BlkR (w.heap.size + 1) t2 c2] ++ [BlkR (w.heap.size + 2) t3 c3]) := by
  have := (h.box2 t1 t2 c1 c2).box t3 c3
  rwa [show ((w.alloc (.cells c1 t1)).alloc (.cells c2 t2)).heap.size = w.heap.size + 2 by simp] at this
theorem awake_o (H : St w0 S0 w L) : Calls Try.prog 9 #[] w fun e w' => e = .returned (.bool true) ∧ St w0 S0 w' L := looks (awake_any w) H
end
end Go.Proofs.Ytninpnlmmaleaaa
