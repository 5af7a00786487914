/- Layer 10: the program's ring: Reset. -/
import Derived.Test.YtboepnfekfhppaaRingE
import Derived.Test.YtboepnfekfhppaaMore
import Derived.Deep.DeepCutAuto
namespace Go.Proofs.Ytboepnfekfhppaa
open Go.RowKit
set_option linter.unusedVariables false
set_option maxRecDepth 100000
set_option maxHeartbeats 1000000
def Dsc.c (d : Dsc) : Nat → Value
  | 0 => .int .i64 d.op
  | 1 => .int .i64 d.req
  | 2 => .int .i64 d.slot
  | 3 => .int .u64 d.gen
  | 4 => .int .i64 d.frm
  | 5 => .int .i64 d.len
  | 6 => .bool d.dv
  | 7 => .bool d.dn
  | _ => .int .i64 d.st
/-- Descriptors, one behind the other. -/
def dsl (D : Nat → Dsc) (m : Nat) : List Value := grid m 9 (fun j k => (D j).c k)
theorem dsl_snoc (D : Nat → Dsc) (m : Nat) : dsl D (m + 1) = dsl D m ++ [.int .i64 (D m).op, .int .i64 (D m).req, .int .i64 (D m).slot, .int .u64 (D m).gen, .int .i64 (D m).frm, .int .i64 (D m).len, .bool (D m).dv, .bool (D m).dn, .int .i64 (D m).st] := by
  unfold dsl
  rw [grid_snoc _ _ _ (by omega)]; rfl
theorem dsl_like {D D' : Nat → Dsc} {m : Nat} (h : ∀ j, j < m → D j = D' j) : dsl D m = dsl D' m := grid_like fun j k hj _ => by rw [h j hj]
theorem dsl_one (D : Nat → Dsc) (m : Nat) : ∀ u ∈ dsl D m, u.oneCell' = true := by
  intro u hu
  unfold dsl grid at hu
  obtain ⟨q, hq, rfl⟩ := List.mem_map.1 hu
  generalize q / 9 = a
  generalize q % 9 = b
  dsimp only
  match b with
  | 0 | 1 | 2 | 3 | 4 | 5 | 6 | 7 => rfl
  | b + 8 => rfl
theorem dsl_at (D : Nat → Dsc) {m j k : Nat} (hj : j < m) (hk : k < 9) : (dsl D m)[j * 9 + k]? = some ((D j).c k) := grid_at _ hj hk
theorem dsl_len (D : Nat → Dsc) (m : Nat) : (dsl D m).length = m * 9 := grid_len _ _ _
theorem Try.infoDesc : (Try.prog.info? 36).map (fun i => (i.zero, i.size, i.bytes)) = some (some (.agg #[.int .i64 0, .int .i64 0, .int .i64 0, .int .u64 0, .int .i64 0, .int .i64 0, .bool false, .bool false, .int .i64 0]), 9, 64) := by kernel_rfl
theorem zero_any (w : World) : (zeroValue 20).run Try.prog w = .ok .nilIface w := by kernel_rfl
theorem rds_dsc {w : World} {B : Nat} {d : Dsc} (h : Blk w B 36 d.cells) : Rds w (some ⟨B, 0, none⟩) 1 9 [.int .i64 d.op, .int .i64 d.req, .int .i64 d.slot, .int .u64 d.gen, .int .i64 d.frm, .int .i64 d.len, .bool d.dv, .bool d.dn, .int .i64 d.st] :=
  ⟨rfl, Or.inr ⟨B, 0, rfl, fun j u hu => by rw [Nat.zero_add, h.cell]; simpa [Dsc.cells] using hu⟩⟩
section
variable {w0 w : World} {S0 S : Nat → Prop} {L : List Res} {p g n : Nat} {s s' : RSt}
theorem Reset_c (h : RingR p n s w S) (hs : s.ok n) (m : Nat) (hm : m = s.put - s.reaped) :
    Calls Try.prog 19 #[.pointer (some ⟨p, 0, none⟩)] w fun e w' => ∃ x : Option Addr × Nat, e = .returned (.slice x.1 m x.2) ∧ ∃ S', Star (RingR p n RSt.new :: [LisR 36 9 (.slice x.1 m x.2) m (dsl (fun j => s.D (s.reaped + j)) m)]) w' S' ∧ Did S S' w w' := by
  have SU := Lib.hid (fun (w : World) S (h : RingR p n s w S) no h0 h1 => sure_c h hs no h0 h1)
  obtain ⟨iD, hiD, hzD, hsD, hbD⟩ := any_parts Try.infoDesc
  obtain ⟨g, hr⟩ := h
  have n0 := hs.n0
  have n1 := hs.n1
  have hp := hs.p
  have hmx := hs.m
  have hrp : s.reaped ≤ s.put := Nat.le_trans hs.r hs.t
  have sb : St w S w [BlkR p 62 #[.slice (some ⟨g, 0, none⟩) n n, .int .i64 s.put, .int .i64 s.taken, .int .i64 s.reaped], LisR 20 1 (.slice (some ⟨g, 0, none⟩) n n) n (plcs n s), LisR 36 9 (.slice none 0 0) 0 []] := (St.start hr).lis_nil 36 9
  obtain ⟨k0, k1, k2, k3⟩ := ring4 (sb.blk 0 rfl)
  have HM := Lib.hid hm
  clear hr hs
  go_enter Try.func19, Try.ntmps19
  clear hm
  go_wp2_with fail
  have hm := HM.out
  go_loopw [3, 4] (fun o i wr => ∃ (k : Nat) (B : Option Addr) (c : Nat), k ≤ m ∧ i = .int .i64 ((s.reaped + k : Nat) : Int) ∧ o = .slice B k c ∧ St w S wr [BlkR p 62 #[.slice (some ⟨g, 0, none⟩) n n, .int .i64 s.put, .int .i64 s.taken, .int .i64 s.reaped], LisR 20 1 (.slice (some ⟨g, 0, none⟩) n n) n (plcs n s), LisR 36 9 (.slice B k c) k (dsl (fun j => s.D (s.reaped + j)) k)]) (fun _ i _ => s.put - (intOf i).toNat)
  case atStart => exact ⟨0, none, 0, by omega, rfl, rfl, sb⟩
  case round =>
    clear sb k0 k1 k2 k3
    obtain ⟨k, B, c, hk, rfl, rfl, sr⟩ := hrel
    obtain ⟨k0, k1, k2, k3⟩ := ring4 (sr.blk 0 rfl)
    by_cases hlt : k < m
    · have t1 : decide (((s.reaped + k : Nat) : Int) < (s.put : Int)) = true := decide_eq_true (by omega)
      have t1' : decide (s.reaped + k < s.put) = true := decide_eq_true (by omega)
      have s1 : St w S wr ([LisR 36 9 (.slice B k c) k (dsl (fun j => s.D (s.reaped + j)) k)] ++ [RingR p n s]) := (St.comm (A := [BlkR p 62 #[.slice (some ⟨g, 0, none⟩) n n, .int .i64 s.put, .int .i64 s.taken, .int .i64 s.reaped], LisR 20 1 (.slice (some ⟨g, 0, none⟩) n n) n (plcs n s)]) (B := [LisR 36 9 (.slice B k c) k (dsl (fun j => s.D (s.reaped + j)) k)]) sr).fold (RingR.ok _ _ _) fun S h => ⟨g, h⟩
      obtain ⟨Q, hQ⟩ := s1.get 1 rfl
      have SC := Lib.hid (SU.out _ _ hQ (s.reaped + k) (by omega) (by omega))
      obtain ⟨d, hd⟩ : ∃ d, s.D (s.reaped + k) = d := ⟨_, rfl⟩
      rw [hd] at SC
      unfold Dsc.v at SC
      have SR := Lib.hid sr
      have HSN := Lib.hid (show dsl (fun j => s.D (s.reaped + j)) k ++ [.int .i64 d.op, .int .i64 d.req, .int .i64 d.slot, .int .u64 d.gen, .int .i64 d.frm, .int .i64 d.len, .bool d.dv, .bool d.dn, .int .i64 d.st] = dsl (fun j => s.D (s.reaped + j)) (k + 1) by rw [dsl_snoc, hd])
      obtain ⟨X, hX⟩ : ∃ X : Int, ((s.reaped + k : Nat) : Int) = X := ⟨_, rfl⟩
      have xb : 0 ≤ X ∧ X ≤ 1000000 := by omega
      rw [hX] at t1 SC
      have HX := Lib.hid hX
      rw [hX]
      clear s1 hQ sr hd t1'
      go_wp2_with fail
      refine SC.out.mono ?_
      rintro e w1 ⟨rfl, hb1⟩
      have s2 := SR.out.stay hb1
      have s3 : St w S (w1.alloc (.cells #[.int .i64 d.op, .int .i64 d.req, .int .i64 d.slot, .int .u64 d.gen, .int .i64 d.frm, .int .i64 d.len, .bool d.dv, .bool d.dn, .int .i64 d.st] 36)) [BlkR p 62 #[.slice (some ⟨g, 0, none⟩) n n, .int .i64 s.put, .int .i64 s.taken, .int .i64 s.reaped], LisR 20 1 (.slice (some ⟨g, 0, none⟩) n n) n (plcs n s), LisR 36 9 (.slice B k c) k (dsl (fun j => s.D (s.reaped + j)) k), BlkR w1.heap.size 36 d.cells] := s2.box 36 d.cells
      have hl3 := s3.lis 2 rfl
      have hr3 := rds_dsc (s3.blk 3 rfl)
      have S3 := Lib.hid s3
      clear s2 s3 hb1 SC SR k0 k1 k2 k3 hX
      go_wp2_with (at_builtin; refine wpList_lis rfl (.tmp 17) (.tmp 21) 29 rfl 36 iD (.agg #[.int .i64 0, .int .i64 0, .int .i64 0, .int .u64 0, .int .i64 0, .int .i64 0, .bool false, .bool false, .int .i64 0]) 9 64 Try.underlying29 hiD hzD hsD hbD rfl (by decide) _ _ _ rfl hl3 (some ⟨w1.heap.size, 0, none⟩) 1 1 [.int .i64 d.op, .int .i64 d.req, .int .i64 d.slot, .int .u64 d.gen, .int .i64 d.frm, .int .i64 d.len, .bool d.dv, .bool d.dn, .int .i64 d.st] rfl hr3 (by simp [Value.oneCell']) (by unfold maxLen; omega) (by omega) ?_; intro B4 cap4 w4 hl4 hg4 hat4; have s4 := (S3.out.lis_put 2 rfl hl4 hg4 hat4).take 3; rw [HSN.out] at s4; have S4 := Lib.hid s4; clear hl4 hg4 hat4 s4 hl3 hr3)
      go_wp2_with fail
      go_roundw
      case rel => exact ⟨k + 1, B4, cap4, by omega, by have := HX.out; first | (go_num; omega) | (congr 1; omega), rfl, S4.out⟩
      case measure => have := HX.out; simp [intOf]; omega
    · obtain rfl : k = m := by omega
      have t1 : decide (((s.reaped + k : Nat) : Int) < (s.put : Int)) = false := decide_eq_false (by omega)
      have t1' : decide (s.reaped + k < s.put) = false := decide_eq_false (by omega)
      have SR := Lib.hid sr
      have hl := sr.lis 1 rfl
      obtain ⟨X, hX⟩ : ∃ X : Int, ((s.reaped + k : Nat) : Int) = X := ⟨_, rfl⟩
      rw [hX] at t1
      rw [hX]
      clear sr t1' hX
      go_wp2_with (refine wpList_clear rfl (.tmp 26) 60 rfl .nilIface Try.underlying60 zero_any rfl rfl rfl hl (by omega) ?_; intro w4 hl4 ho4; have s4 := SR.out.lis_only 1 rfl hl4 ho4; clear hl4 ho4 hl; have k4 := ring4 (s4.blk 0 rfl); have f1 := (s4.blk 0 rfl).frozen 1; have f2 := (s4.blk 0 rfl).frozen 2; have f3 := (s4.blk 0 rfl).frozen 3; obtain ⟨j0, j1, j2, j3⟩ := k4; have S5 := Lib.hid (((s4.set_ 0 rfl 1 (.int .i64 0)).set_ 0 rfl 2 (.int .i64 0)).set_ 0 rfl 3 (.int .i64 0)); clear s4)
      go_wp2_with fail
      go_ret
      refine ⟨(B, c), by first | rfl | (simp; exact hm.symm), ?_⟩
      have s6 := S5.out
      rw [← plcs_new n RSt.new (Nat.le_refl _)] at s6
      have s7 := St.comm (A := [BlkR p 62 _, LisR 20 _ _ _ _]) (B := [LisR 36 _ _ _ _]) s6
      have s8 := (s7.fold (A := [LisR 36 _ _ _ _]) (R := RingR p n RSt.new) (RingR.ok _ _ _) fun S h => ⟨g, h⟩).swap01
      exact s8.fin fun S' h => h
end
end Go.Proofs.Ytboepnfekfhppaa
