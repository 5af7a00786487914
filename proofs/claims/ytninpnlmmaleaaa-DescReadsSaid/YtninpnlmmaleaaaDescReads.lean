/-
  For every row of bytes DescReads answers true, and changes nothing: it is the descriptor that the document says, or refused; its check is what the document says. No condition.
-/
import Derived.Test.YtninpnlmmaleaaaRows
import Derived.Test.YtninpnlmmaleaaaFr
import Derived.Test.YtninpnlmmaleaaaDescT
import Derived.Test.YtninpnlmmaleaaaOpen
import Derived.Deep.RegionHeld3
namespace Go.Proofs.Ytninpnlmmaleaaa.descReads
open Go.ChangeShapes Go.WideShapes Go.ChangeAt Go.RowKit
set_option linter.unusedVariables false
theorem own : ownKnob Try.prog.godebug = none := by kernel_rfl
theorem laid : laidOutB Try.prog = true := by kernel_rfl
set_option maxRecDepth 100000
set_option maxHeartbeats 1000000
theorem dec_ex (f : Nat → Int) (n : Nat) : ∃ (d : Dsc) (c : Int), (isD f n ∧ d = dec f ∧ c = 0) ∨ (¬ isD f n ∧ d = Dsc.zero ∧ c = 9) := by
  by_cases h : isD f n
  · exact ⟨dec f, 0, Or.inl ⟨h, rfl, rfl⟩⟩
  · exact ⟨Dsc.zero, 9, Or.inr ⟨h, rfl, rfl⟩⟩
theorem dec_same {f g : Nat → Int} {n : Nat} (h : ∀ j, j < n → f j = g j) {d : Dsc} {c : Int} (hd : (isD f n ∧ d = dec f ∧ c = 0) ∨ (¬ isD f n ∧ d = Dsc.zero ∧ c = 9)) : (isD g n ∧ d = dec g ∧ c = 0) ∨ (¬ isD g n ∧ d = Dsc.zero ∧ c = 9) := by
  by_cases hn : n = 20
  · subst hn
    rwa [isD_like h, dec_like h] at hd
  · exact Or.inr (hd.elim (fun h => absurd h.1.1 hn) fun h => ⟨fun k => hn k.1, h.2⟩)
theorem walk (A : Option Addr) (n cap : Nat) (f : Nat → Int) (w : World) (hcap : n ≤ cap ∧ cap ≤ maxLen) (rd : Rd w A n (fun j => .int .u8 (f j))) (hf : ∀ j, 0 ≤ f j ∧ f j ≤ 255) :
    Calls Try.prog 4 #[.slice A n cap] w fun r w' => r = .returned (.bool true) ∧ Below w.heap.size w w' := by
  have hm := hcap
  unfold maxLen at hm
  by_cases hn : 4000 < n
  · have d1 : decide (4000 < (n : Int)) = true := decide_eq_true (by omega)
    go_enter Try.func4, Try.ntmps4
    go_wp2_with fail
    refine (looks (awake_any _) (St.begin w)).mono ?_
    rintro e w1 ⟨rfl, s1⟩
    go_wp2_with fail
    go_ret
    exact ⟨rfl, s1.below⟩
  · have d1 : decide (4000 < (n : Int)) = false := decide_eq_false (by omega)
    obtain ⟨i0, hi, hz0, hz1, hz2⟩ := info_parts Try.infoU8
    have hfb : ∀ j, j < n → 0 ≤ f j ∧ f j < 256 := fun j _ => by have := hf j; omega
    have rds : ∀ W, Below w.heap.size w W → Rds W A n 1 (bys ((List.range n).map f)) := fun W hb => ⟨by simp [bys], by
      by_cases h0 : n = 0
      · exact Or.inl h0
      · obtain ⟨b, off, rfl, hbl, hc⟩ := rd (by omega)
        refine Or.inr ⟨b, off, rfl, fun j u hu => ?_⟩
        have hj : j < n := by
          rcases Nat.lt_or_ge j n with h | h
          · exact h
          · rw [List.getElem?_eq_none (by simp [bys]; omega)] at hu; cases hu
        have e : u = .int .u8 (f j) := by simpa [bys, hj] using hu.symm
        rw [e]
        exact (hb.cell (p := ⟨b, off + j, none⟩) hbl).trans (hc j hj)⟩
    have RDS := Lib.hid rds
    have RD := Lib.hid rd
    have HFB := Lib.hid hfb
    have HCAP := Lib.hid hcap
    clear rds rd hfb hcap hf
    have hgx : ∀ j, j < n → ((List.range n).map f).getD j 0 = f j := fun j hj => by simp [List.getD, hj]
    obtain ⟨d, c, hd⟩ := dec_ex f n
    have HD := Lib.hid hd
    have HGX := Lib.hid hgx
    clear hd hgx
    go_enter Try.func4, Try.ntmps4
    go_wp2_with fail
    refine (looks (awake_any _) (St.begin w)).mono ?_
    rintro e w1 ⟨rfl, s1⟩
    have s2 : St w None _ [_] := s1.lis_new 5 1 0 #[] rfl (by unfold maxLen; omega)
    have hl2 := s2.lis 0 rfl
    have hr2 := RDS.out _ s2.below
    go_wp2_with (at_builtin; refine wpList_lis rfl _ _ 28 rfl 5 i0 (.int .u8 0) 1 1 Try.underlying28 hi hz0 hz1 hz2 rfl (by decide) _ _ _ rfl hl2 A n cap (bys ((List.range n).map f)) rfl hr2 (bys_one _) (by unfold maxLen; omega) (by omega) ?_; intro B3 c3 w3 hl3 hg3 hat3; have s3' := s2.lis_put 0 rfl hl3 hg3 hat3; clear hl3 hg3 hat3 hl2 hr2)
    rw [Nat.zero_add] at s3'
    have s3 : St w None w3 [LisR 5 1 (.slice B3 n c3) n (bys ((List.range n).map f))] := s3'
    clear s3' s2 s1
    refine (from_xs s3 0 rfl (fun j hj => by rw [HGX.out j hj]; exact HFB.out j hj) d c (dec_same (fun j hj => (HGX.out j hj).symm) HD.out)).mono ?_
    rintro e w4 ⟨rfl, s4⟩
    unfold Dsc.v
    have s5 := s4.box 26 d.cells
    have RF := Lib.hid (fun W (hb : Below w.heap.size w W) => rfrom_c (RD.out.below hb (Nat.le_refl _)) HFB.out HCAP.out d c HD.out)
    unfold Dsc.v at RF
    go_wp2_with fail
    refine (looks (RF.out _ s5.below) s5).mono ?_
    rintro e w6 ⟨rfl, s6'⟩
    have s6 : St w None w6 [LisR 5 1 (.slice B3 n c3) n (bys ((List.range n).map f)), BlkR w4.heap.size 26 d.cells] := s6'
    generalize w4.heap.size = g at *
    have s7 : St w None (w6.alloc (.cells #[.int .i64 d.op, .int .i64 d.req, .int .i64 d.slot, .int .u64 d.gen, .int .i64 d.frm, .int .i64 d.len, .bool d.dv, .bool d.dn, .int .i64 d.st] 26)) [_, _, BlkR w6.heap.size 26 d.cells] := s6.box 26 d.cells
    obtain ⟨x0, x1, x2, x3, x4, x5, x6, x7, x8⟩ := dsc_cells d _ g (s7.blk 1 rfl)
    have SM := Lib.hid (looks (same_eq (cap := c3) (cap2 := cap) (rd_bys (s7.lis 0 rfl)) (RD.out.below s7.below (Nat.le_refl _)) (by unfold maxLen; omega) true (decide_eq_true HGX.out).symm) s7)
    clear s6 s6' s5 s4 s3 RF s7
    go_wp2_with fail
    refine SM.out.mono ?_
    rintro e w8 ⟨rfl, s8⟩
    clear SM
    have CK := Lib.hid (check_c (cap := c3) (rd_bys (s8.lis 0 rfl)) (fun j hj => by rw [HGX.out j hj]; exact HFB.out j hj) (by omega))
    have CR := Lib.hid (rcheck_c (cap := cap) (RD.out.below s8.below (Nat.le_refl _)) HFB.out (by omega))
    rw [chk_like HGX.out] at CK
    go_wp2_with fail
    refine CK.out.mono ?_
    rintro e w9 ⟨rfl, rfl⟩
    go_wp2_with fail
    refine CR.out.mono ?_
    rintro e w9 ⟨rfl, rfl⟩
    go_wp2_with fail
    go_ret
    exact ⟨rfl, s8.below⟩

set_option maxRecDepth 100000 in
theorem lifted (os : Os) (started : os.Started) (H : Type) (enc : TypeId × Value → H) :
    ReturnsInHanded {} Try.checked os 4 .any (Rows.descReadsSpec.pre6 enc Try.prog Try.f4 Rows.descReadsRow.domain false) (Rows.descReadsSpec.post enc Try.prog Try.f4 false true false false) := by
  refine law_lifted (C := Try.checked) (tb := 4) own started (by kernel_rfl) Try.func4
    (ChangeSpec.witness6 (enc := enc) (C := Try.checked) false ⟨#[], #[.slice none 0 0], []⟩ 8 (by kernel_rfl) (by kernel_rfl) (by kernel_rfl) (by kernel_rfl)) laid (by kernel_rfl) (by kernel_rfl) Try.underlying4 rfl ?_
  intro W base args ds ps hval0 hA0 hlt
  have hval : ∀ (j : Nat) t v, Try.f4.params[j]? = some t → args[j]? = some v → Value.okWide Try.prog W .any base t v := hval0
  have hA : DataW.TrodAll enc Try.prog W 0 (fun _ => true) true Try.f4.params.toList args.toList ds ps := hA0
  clear hA0 hval0
  rw [Try.params4] at hA hval
  obtain ⟨v0, vs0, d0, ds0, p0, q0, hargs, rfl, rfl, h0, r0⟩ := trodAll_cons hA
  obtain ⟨rfl, rfl, rfl⟩ := trodAll_nil r0
  obtain rfl : args = #[v0] := by cases args; simp_all
  obtain ⟨A0, n0, cap0, f0, rfl, le0, mx0, wf0, rd0⟩ := open_slice_ints Try.underlying28 Try.underlying5 (by kernel_rfl) (hval 0 28 v0 rfl rfl) h0
  refine ⟨⟨rfl, rfl, rfl⟩, ?_⟩
  exact walk A0 n0 cap0 f0 W ⟨le0, by omega⟩ rd0 (fun i => bounds_u8 (wf0 i))

theorem over : Rows.descReadsRow.holds Try.pinned (OpenSpec.ofChange Rows.descReadsSpec) :=
  OpenClaim.holds_of_wide 4 Try.f4 rfl rfl rfl rfl rfl rfl rfl ⟨rfl, rfl, rfl, rfl, rfl⟩ rfl rfl rfl rfl rfl (by kernel_rfl) Try.func4 (by kernel_rfl)
    (of_decide_eq_true (by kernel_rfl)) (by unfold Func.isWrapper; first | (rw [if_pos (by decide +kernel)]; kernel_rfl) | (rw [if_neg (by decide +kernel)]; exact ⟨rfl, rfl⟩))
    (fun os started H enc _ => lifted os started H enc)
theorem proved : Rows.DescReadsSaid := over
#print axioms proved
end Go.Proofs.Ytninpnlmmaleaaa.descReads
