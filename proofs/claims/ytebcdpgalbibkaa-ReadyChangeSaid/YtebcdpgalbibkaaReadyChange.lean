/-
  For all urgencies and every change ReadyChange answers true, and changes nothing: who changes stands behind all alike ones, ahead of all less urgent ones; to the same it stays where it is. No condition.
-/
import Derived.Test.YtebcdpgalbibkaaRows
import Derived.Test.YtebcdpgalbibkaaFr
import Derived.Test.YtebcdpgalbibkaaReadyH
import Derived.Deep.QuietTactic
import Derived.BigQuiet
namespace Go.Proofs.Ytebcdpgalbibkaa.readyChange
open Go.ChangeShapes Go.WideShapes Go.ChangeAt Go.RowKit
set_option linter.unusedVariables false
theorem own : ownKnob Try.prog.godebug = none := by kernel_rfl
theorem laid : laidOutB Try.prog = true := by kernel_rfl
set_option maxRecDepth 100000
set_option maxHeartbeats 4000000
theorem walk (A : Option Addr) (n cap : Nat) (f : Nat → Nat) (id prio : Nat) (w : World) (hid : id ≤ 255) (hprio : prio ≤ 255) (hm : n ≤ maxLen) (rd : Rd w A n (fun j => .int .u8 (f j : Int))) (hf : ∀ j, f j ≤ 255) :
    Calls Try.prog 5 #[.slice A n cap, .int .u8 (id : Int), .int .u8 (prio : Int)] w fun r w' => r = .returned (.bool true) ∧ Below w.heap.size w w' := by
  unfold maxLen at hm
  have RD := Lib.hid rd
  have HF := Lib.hid hf
  clear rd hf
  by_cases hbig : 40 < n
  · have d1 : decide (40 < (n : Int)) = true := decide_eq_true (by omega)
    have d1' : decide (40 < n) = true := decide_eq_true hbig
    go_enter Try.func5, Try.ntmps5
    go_wp2_with fail
    refine (awake_o (St.begin w)).mono ?_
    rintro r w1 ⟨rfl, s1⟩
    go_wp2_with fail
    go_ret
    exact ⟨rfl, s1.below⟩
  have d1 : decide (40 < (n : Int)) = false := decide_eq_false (by omega)
  have d1' : decide (40 < n) = false := decide_eq_false hbig
  by_cases hn0 : n = 0
  · subst hn0
    go_enter Try.func5, Try.ntmps5
    go_wp2_with fail
    refine (awake_o (St.begin w)).mono ?_
    rintro r w1 ⟨rfl, s1⟩
    go_wp2_with fail
    go_ret
    exact ⟨rfl, s1.below⟩
  have d2 : ((n : Int) == 0) = false := beq_eq_false_iff_ne.2 (by omega)
  have d2' : (n == 0) = false := beq_eq_false_iff_ne.2 hn0
  obtain ⟨P, hP⟩ : ∃ P : Nat → Nat, ∀ j, P j = f j % 9 := ⟨_, fun j => rfl⟩
  have hP1 : ∀ j, P j < 101 := fun j => by rw [hP]; omega
  have HP := Lib.hid hP
  have HP1 := Lib.hid hP1
  obtain ⟨k, hk⟩ : ∃ k, id % n = k := ⟨_, rfl⟩
  have hkn : k < n := by rw [← hk]; exact Nat.mod_lt _ (by omega)
  have hrk : Int.tmod (id : Int) (n : Int) = (k : Int) := by
    rw [Int.tmod_eq_emod_of_nonneg (by omega), ← hk]; exact (Int.natCast_emod id n).symm
  have hwi : IntKind.i64.wrap (id : Int) = (id : Int) := IntWalk.i64_in _ ⟨by omega, by omega⟩
  obtain ⟨p, hp⟩ : ∃ p, prio % 9 = p := ⟨_, rfl⟩
  have hp9 : p < 9 := by omega
  have hrp : Int.tmod (prio : Int) 9 = (p : Int) := by
    rw [Int.tmod_eq_emod_of_nonneg (by omega), ← hp]; exact (Int.natCast_emod prio 9).symm
  have hwp0 : IntKind.i64.wrap (prio : Int) = (prio : Int) := IntWalk.i64_in _ ⟨by omega, by omega⟩
  clear hP hP1 hk hp hn0
  go_enter Try.func5, Try.ntmps5
  go_wp2_with fail
  refine (awake_o (St.begin w)).mono ?_
  rintro r w1 ⟨rfl, s1⟩
  go_wp2_with fail
  refine (New_o s1).mono ?_
  rintro r w2 ⟨q, rfl, s2'⟩
  have s2 : St w None w2 [QueR q QS.new] := s2'
  have S2 := Lib.hid s2
  clear s1 s2 s2'
  go_wp2_with fail
  go_loopw [8] (fun i wr => ∃ k : Nat, k ≤ n ∧ i = .int .i64 k ∧ St w None wr [QueR q (comes P k)]) (fun i _ => n - (intOf i).toNat)
  case atStart => exact ⟨0, by omega, rfl, S2.out⟩
  case round =>
    clear S2
    obtain ⟨m, hmn, rfl, sr⟩ := hrel
    have SR := Lib.hid sr
    by_cases hlt : m < n
    · obtain ⟨ib, off, rfl, hib, hrd⟩ := RD.out (by omega)
      have e0 : wr.cell? ⟨ib, off + m, none⟩ = some (.int .u8 (f m)) := (sr.below.cell (p := ⟨ib, off + m, none⟩) hib).trans (hrd m hlt)
      have hfb := HF.out m
      have hpk := HP.out m
      have CO := Lib.hid (Come_o (i := 0) SR.out rfl (comes_came HP1.out (show m ≤ 64 by omega)).ok _ _ _ (comes_comeP HP1.out (show m < 64 by omega)))
      generalize f m = x at *
      have hrem : Int.tmod (x : Int) 9 = (P m : Int) := by
        rw [Int.tmod_eq_emod_of_nonneg (by omega), hpk]; exact (Int.natCast_emod x 9).symm
      have hwx : IntKind.i64.wrap (x : Int) = (x : Int) := IntWalk.i64_in _ ⟨by omega, by omega⟩
      have hwp : IntKind.i64.wrap (P m : Int) = (P m : Int) := by have := HP1.out m; exact IntWalk.i64_in _ ⟨by omega, by omega⟩
      clear hpk sr hrd
      go_wp2_with fail
      refine CO.out.mono ?_
      rintro r' w3 ⟨rfl, s3'⟩
      have s3 : St w None w3 [QueR q (comes P (m + 1))] := s3'
      clear s3' CO
      go_wp2_with fail
      go_roundw
      case rel => exact ⟨m + 1, by omega, by go_num, s3⟩
      case measure => simp [intOf]; omega
    · obtain rfl : m = n := by omega
      have hc := comes_came HP1.out (show m ≤ 64 by omega)
      generalize comes P m = s at *
      obtain ⟨s', hch⟩ := chg_ex hc hkn (by omega) (show p < 101 by omega) HP1.out
      have C := Lib.hid hc
      have CH := Lib.hid hch
      clear sr hc hch
      go_wp2_with fail
      refine (All_o (i := 0) SR.out rfl C.out.ok).mono ?_
      rintro r' w3 ⟨B1, c1, rfl, s3'⟩
      rw [C.out.len] at s3' ⊢
      have s3 : St w None w3 [QueR q s, LisR 3 1 (.slice B1 m c1) m (ivs s.ids)] := s3'
      have S3 := Lib.hid s3
      clear s3 s3' SR
      go_wp2_with fail
      refine (Change_o (i := 0) S3.out rfl C.out.ok _ _ _ CH.out.ch).mono ?_
      rintro r' w4 ⟨rfl, s4'⟩
      have s4 : St w None w4 [QueR q s', LisR 3 1 (.slice B1 m c1) m (ivs s.ids)] := s4'
      have S4 := Lib.hid s4
      clear s4 s4' S3
      go_wp2_with fail
      refine (All_o (i := 0) S4.out rfl CH.out.ok).mono ?_
      rintro r' w5 ⟨B2, c2, rfl, s5'⟩
      rw [CH.out.len] at s5' ⊢
      have s5 : St w None w5 [QueR q s', LisR 3 1 (.slice B1 m c1) m (ivs s.ids), LisR 3 1 (.slice B2 m c2) m (ivs s'.ids)] := s5'
      have hl1 := (ids_len s).trans C.out.len
      have hl2 := (ids_len s').trans CH.out.len
      have hjl := CH.out.lt
      have hfin : (P k = p ∧ s'.ids = s.ids) ∨ (P k ≠ p ∧ ∃ a, lastAt s'.ids k m = (a : Nat) ∧ cntP P k p s'.ids m = a) := by
        rcases CH.out.fin with ⟨h1, h2⟩ | h
        · exact Or.inl ⟨h1, by rw [h2]⟩
        · exact Or.inr h
      clear C CH S4 s5'
      generalize s.ids = la at *
      generalize s'.ids = lb at *
      have S5 := Lib.hid s5
      have HL1 := Lib.hid hl1
      have HL2 := Lib.hid hl2
      have HJ := Lib.hid hjl
      have FIN := Lib.hid hfin
      clear s5 hl1 hl2 hjl hfin
      go_wp2_with fail
      go_loopw [13, 14, 15] (fun x13 x14 i wr => ∃ (t c : Nat) (z : Int), t ≤ m ∧ i = .int .i64 t ∧ x13 = .int .i64 z ∧ x14 = .int .i64 (c : Int) ∧ lastAt lb k t = z ∧ cntP P k p lb t = c ∧ St w None wr [QueR q s', LisR 3 1 (.slice B1 m c1) m (ivs la), LisR 3 1 (.slice B2 m c2) m (ivs lb)]) (fun _ _ i _ => m - (intOf i).toNat)
      case atStart => exact ⟨0, 0, -1, by omega, rfl, rfl, rfl, rfl, rfl, S5.out⟩
      case round =>
        clear S5
        obtain ⟨t, c, z, htm, rfl, rfl, rfl, hz, hc, sr⟩ := hrel
        have SR := Lib.hid sr
        have HZ := Lib.hid hz
        have HC := Lib.hid hc
        have hcm : c ≤ m := by rw [← hc, ← HL2.out]; exact cntP_le
        clear hz hc
        by_cases hlt : t < m
        · obtain ⟨x, hx⟩ : ∃ x, lb[t]? = some x := ⟨lb[t]'(by have := HL2.out; omega), List.getElem?_eq_getElem _⟩
          have hxm := HJ.out x (List.mem_of_getElem? hx)
          obtain ⟨gb, go, rfl, hcc⟩ := (sr.lis 2 rfl).reads.2.resolve_left (by omega)
          have e1 := hcc t _ (ivs_get hx)
          have HLA := Lib.hid (lastAt_snoc (k := k) hx)
          have HCN := Lib.hid (cntP_snoc (P := P) (k := k) (p := p) hx)
          obtain ⟨ib, off, rfl, hib, hrd⟩ := RD.out (by omega)
          have e0 : wr.cell? ⟨ib, off + x, none⟩ = some (.int .u8 (f x)) := (sr.below.cell (p := ⟨ib, off + x, none⟩) hib).trans (hrd x hxm)
          have hfb := HF.out x
          have hpx := HP.out x
          have hp1 := HP1.out x
          have hrem : Int.tmod (f x : Int) 9 = (P x : Int) := by
            rw [Int.tmod_eq_emod_of_nonneg (by omega), hpx]; exact (Int.natCast_emod (f x) 9).symm
          have hwx : IntKind.i64.wrap (f x : Int) = (f x : Int) := IntWalk.i64_in _ ⟨by omega, by omega⟩
          have hwp : IntKind.i64.wrap (P x : Int) = (P x : Int) := IntWalk.i64_in _ ⟨by omega, by omega⟩
          clear hpx hp1 sr hrd hx hcc
          by_cases e : x = k
          · have q1 : ((x : Int) == (k : Int)) = true := beq_iff_eq.2 (by omega)
            have q1' : (x == k) = true := beq_iff_eq.2 e
            have q2 : ((x : Int) != (k : Int)) = false := by simp [bne, q1]
            have q2' : (x != k) = false := by simp [bne, q1']
            have HE := Lib.hid e
            clear e
            go_wp2_with fail
            go_roundw
            case rel =>
              refine ⟨t + 1, c, t, by omega, by go_num, rfl, rfl, ?_, ?_, SR.out⟩
              · rw [HLA.out, if_pos HE.out]
              · rw [HCN.out, HC.out, if_neg]
                · rfl
                · unfold keepP; simp [HE.out]
            case measure => simp [intOf]; omega
          · have q1 : ((x : Int) == (k : Int)) = false := beq_eq_false_iff_ne.2 (by omega)
            have q1' : (x == k) = false := beq_eq_false_iff_ne.2 e
            have q2 : ((x : Int) != (k : Int)) = true := by simp [bne, q1]
            have q2' : (x != k) = true := by simp [bne, q1']
            have HE := Lib.hid e
            clear e
            by_cases hle : P x ≤ p
            · have HK := Lib.hid (show keepP P k p x = true by unfold keepP; rw [decide_eq_true HE.out, decide_eq_true hle]; rfl)
              by_cases hpl : P x < p
              · have y1 : decide ((P x : Int) < (p : Int)) = true := decide_eq_true (by omega)
                have y1' : decide (P x < p) = true := decide_eq_true hpl
                clear hle hpl
                go_wp2_with fail
                go_roundw
                case rel => exact ⟨t + 1, c + 1, z, by omega, by go_num, rfl, by go_num, by rw [HLA.out, if_neg HE.out, HZ.out], by rw [HCN.out, HC.out, if_pos HK.out], SR.out⟩
                case measure => simp [intOf]; omega
              · have y1 : decide ((P x : Int) < (p : Int)) = false := decide_eq_false (by omega)
                have y1' : decide (P x < p) = false := decide_eq_false hpl
                have y2 : ((P x : Int) == (p : Int)) = true := beq_iff_eq.2 (by omega)
                have y2' : (P x == p) = true := beq_iff_eq.2 (by omega)
                clear hle hpl
                go_wp2_with fail
                go_roundw
                case rel => exact ⟨t + 1, c + 1, z, by omega, by go_num, rfl, by go_num, by rw [HLA.out, if_neg HE.out, HZ.out], by rw [HCN.out, HC.out, if_pos HK.out], SR.out⟩
                case measure => simp [intOf]; omega
            · have y1 : decide ((P x : Int) < (p : Int)) = false := decide_eq_false (by omega)
              have y1' : decide (P x < p) = false := decide_eq_false (by omega)
              have y2 : ((P x : Int) == (p : Int)) = false := beq_eq_false_iff_ne.2 (by omega)
              have y2' : (P x == p) = false := beq_eq_false_iff_ne.2 (by omega)
              have HK := Lib.hid (show ¬ keepP P k p x = true by unfold keepP; rw [decide_eq_false hle]; simp)
              clear hle
              go_wp2_with fail
              go_roundw
              case rel => exact ⟨t + 1, c, z, by omega, by go_num, rfl, rfl, by rw [HLA.out, if_neg HE.out, HZ.out], by rw [HCN.out, HC.out, if_neg HK.out]; rfl, SR.out⟩
              case measure => simp [intOf]; omega
        · obtain rfl : t = m := by omega
          obtain ⟨ib, off, rfl, hib, hrd⟩ := RD.out (by omega)
          have e0 : wr.cell? ⟨ib, off + k, none⟩ = some (.int .u8 (f k)) := (sr.below.cell (p := ⟨ib, off + k, none⟩) hib).trans (hrd k hkn)
          have hfb := HF.out k
          have hpx := HP.out k
          have hp1 := HP1.out k
          have hrem : Int.tmod (f k : Int) 9 = (P k : Int) := by
            rw [Int.tmod_eq_emod_of_nonneg (by omega), hpx]; exact (Int.natCast_emod (f k) 9).symm
          have hwx : IntKind.i64.wrap (f k : Int) = (f k : Int) := IntWalk.i64_in _ ⟨by omega, by omega⟩
          have hwp : IntKind.i64.wrap (P k : Int) = (P k : Int) := IntWalk.i64_in _ ⟨by omega, by omega⟩
          clear hpx hp1 sr hrd
          rcases FIN.out with ⟨h1, h2⟩ | ⟨h1, a, h2, h3⟩
          · have q1 : ((p : Int) == (P k : Int)) = true := beq_iff_eq.2 (by omega)
            have q1' : (p == P k) = true := beq_iff_eq.2 h1.symm
            subst h2
            have SA := Lib.hid SR.out
            clear SR h1
            go_wp2_with fail
            go_loopw [16] (fun i wr => ∃ u : Nat, u ≤ t ∧ i = .int .i64 u ∧ St w None wr [QueR q s', LisR 3 1 (.slice B1 t c1) t (ivs lb), LisR 3 1 (.slice B2 t c2) t (ivs lb)]) (fun i _ => t - (intOf i).toNat)
            case atStart => exact ⟨0, by omega, rfl, SA.out⟩
            case round =>
              clear SA e0
              obtain ⟨u, hu, rfl, sr⟩ := hrel
              have SR := Lib.hid sr
              by_cases hut : u < t
              · obtain ⟨x, hx⟩ : ∃ x, lb[u]? = some x := ⟨lb[u]'(by have := HL2.out; omega), List.getElem?_eq_getElem _⟩
                obtain ⟨gb, go, rfl, hcc⟩ := (sr.lis 2 rfl).reads.2.resolve_left (by omega)
                have e1 := hcc u _ (ivs_get hx)
                obtain ⟨gc, gd, rfl, hcd⟩ := (sr.lis 1 rfl).reads.2.resolve_left (by omega)
                have e2 := hcd u _ (ivs_get hx)
                have u0 : (0 : Int) ≤ (u : Int) := by omega
                have u1 : (u : Int) < (t : Int) := by omega
                clear sr hx hcc hcd
                go_wp2_with fail
                go_quiet (fail)
                go_wp2_with fail
                go_roundw
                case rel => exact ⟨u + 1, by omega, by go_num, SR.out.drewN _⟩
                case measure => simp [intOf]; omega
              · obtain rfl : u = t := by omega
                clear sr
                go_wp2_with fail
                go_ret
                exact ⟨rfl, SR.out.below⟩
          · have q1 : ((p : Int) == (P k : Int)) = false := beq_eq_false_iff_ne.2 (by omega)
            have q1' : (p == P k) = false := beq_eq_false_iff_ne.2 (fun h => h1 h.symm)
            obtain rfl : z = (a : Int) := by rw [← HZ.out]; exact h2
            obtain rfl : c = a := by rw [← HC.out]; exact h3
            clear h1 h2 h3
            go_wp2_with fail
            go_ret
            exact ⟨rfl, SR.out.below⟩

set_option maxRecDepth 100000 in
theorem lifted (os : Os) (started : os.Started) (H : Type) (enc : TypeId × Value → H) :
    ReturnsInHanded {} Try.checked os 5 .any (Rows.readyChangeSpec.pre6 enc Try.prog Try.f5 Rows.readyChangeRow.domain false) (Rows.readyChangeSpec.post enc Try.prog Try.f5 false true false false) := by
  refine law_lifted (C := Try.checked) (tb := 4) own started (by kernel_rfl) Try.func5
    (ChangeSpec.witness6 (enc := enc) (C := Try.checked) false ⟨#[], #[.slice none 0 0, .int .u8 0, .int .u8 0], []⟩ 8 (by kernel_rfl) (by kernel_rfl) (by kernel_rfl) (by kernel_rfl)) laid (by kernel_rfl) (by kernel_rfl) Try.underlying4 rfl ?_
  intro W base args ds ps hval0 hA0 hlt
  have hval : ∀ (j : Nat) t v, Try.f5.params[j]? = some t → args[j]? = some v → Value.okWide Try.prog W .any base t v := hval0
  have hA : DataW.TrodAll enc Try.prog W 0 (fun _ => true) true Try.f5.params.toList args.toList ds ps := hA0
  clear hA0 hval0
  rw [Try.params5] at hA hval
  obtain ⟨v0, vs0, d0, ds0, p0, q0, hargs, rfl, rfl, h0, r0⟩ := trodAll_cons hA
  obtain ⟨v1, vs1, d1, ds1, p1, q1, rfl, rfl, rfl, h1, r1⟩ := trodAll_cons r0
  obtain ⟨v2, vs2, d2, ds2, p2, q2, rfl, rfl, rfl, h2, r2⟩ := trodAll_cons r1
  obtain ⟨rfl, rfl, rfl⟩ := trodAll_nil r2
  obtain rfl : args = #[v0, v1, v2] := by cases args; simp_all
  obtain ⟨A0, n0, cap0, f0, rfl, le0, mx0, wf0, rd0⟩ := open_slice_ints Try.underlying41 Try.underlying5 (by kernel_rfl) (hval 0 41 v0 rfl rfl) h0
  obtain ⟨a1, rfl, rfl, rfl, w1⟩ := open_int Try.underlying5 (hval 1 5 v1 rfl rfl) h1
  obtain ⟨a2, rfl, rfl, rfl, w2⟩ := open_int Try.underlying5 (hval 2 5 v2 rfl rfl) h2
  refine ⟨⟨rfl, rfl, rfl⟩, ?_⟩
  have e1 : a1 = ((a1.toNat : Nat) : Int) := by have := bounds_u8 w1; omega
  have e2 : a2 = ((a2.toNat : Nat) : Int) := by have := bounds_u8 w2; omega
  rw [e1, e2]
  exact walk A0 n0 cap0 (fun j => (f0 j).toNat) a1.toNat a2.toNat W (by have := bounds_u8 w1; omega) (by have := bounds_u8 w2; omega) (by omega) (by
    have e : (fun j => Value.int .u8 (f0 j)) = fun j => Value.int .u8 (((f0 j).toNat : Nat) : Int) := by
      funext j
      rw [Int.toNat_of_nonneg (bounds_u8 (wf0 j)).1]
    rw [← e]; exact rd0) (fun j => by have := bounds_u8 (wf0 j); omega)

theorem over : Rows.readyChangeRow.holds Try.pinned (OpenSpec.ofChange Rows.readyChangeSpec) :=
  OpenClaim.holds_of_wide 5 Try.f5 rfl rfl rfl rfl rfl rfl rfl ⟨rfl, rfl, rfl, rfl, rfl⟩ rfl rfl rfl rfl rfl (by kernel_rfl) Try.func5 (by kernel_rfl)
    (of_decide_eq_true (by kernel_rfl)) (by unfold Func.isWrapper; first | (rw [if_pos (by decide +kernel)]; kernel_rfl) | (rw [if_neg (by decide +kernel)]; exact ⟨rfl, rfl⟩))
    (fun os started H enc _ => lifted os started H enc)
theorem proved : Rows.ReadyChangeSaid := over
#print axioms proved
end Go.Proofs.Ytebcdpgalbibkaa.readyChange
