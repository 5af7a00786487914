/-
  For all classes and every size PoolGets answers true, and changes nothing: as many buffers are got as are great enough, the least numbers first, and then none; a greater one than any isn't there. No condition.
-/
import Derived.Test.YtceoflpoefehoaaRows
import Derived.Test.YtceoflpoefehoaaFr
import Derived.Test.YtceoflpoefehoaaPool3
import Derived.Test.YtceoflpoefehoaaRd
import Derived.Test.YtceoflpoefehoaaOpen
namespace Go.Proofs.Ytceoflpoefehoaa.poolGets
open Go.ChangeShapes Go.WideShapes Go.ChangeAt Go.RowKit
set_option linter.unusedVariables false
theorem own : ownKnob Try.prog.godebug = none := by kernel_rfl
theorem laid : laidOutB Try.prog = true := by kernel_rfl
set_option maxRecDepth 100000
set_option maxHeartbeats 1000000
theorem walk (A : Option Addr) (n cap : Nat) (V : Nat → Nat → Value) (Z C : Nat → Int) (z : Int) (w : World) (hn : n ≤ maxLen) (rd : RdM w A n 2 V) (hV : Cls V n Z C) (hz : -9223372036854775808 ≤ z ∧ z ≤ 9223372036854775807) :
    Calls Try.prog 5 #[.slice A n cap, .int .i64 z] w fun r w' => r = .returned (.bool true) ∧ Below w.heap.size w w' := by
  by_cases hm : mayC n Z C
  · have hn8 := hm.1
    have d8 : decide (8 < (n : Int)) = false := decide_eq_false (by omega)
    have HM := Lib.hid hm
    have HV := Lib.hid hV
    have RD := Lib.hid rd
    clear hm hV rd hn
    go_enter Try.func5, Try.ntmps5
    go_wp2_with fail
    refine (awake_o (St.begin w)).mono ?_
    rintro e w1 ⟨rfl, s1⟩
    have MC := Lib.hid (may_c (w := w1) (cap := cap) (RD.out.below s1.below (Nat.le_refl _)) HV.out (by unfold maxLen; omega) true (decide_eq_true HM.out).symm)
    go_wp2_with fail
    refine (looks MC.out s1).mono ?_
    rintro e w2 ⟨rfl, s2⟩
    clear s1 MC
    go_wp2_with fail
    go_loopw [5, 6, 7, 8] (fun nn tt ff i wr => ∃ k : Nat, k ≤ n ∧ i = .int .i64 k ∧ nn = .int .i64 (nge Z C z k : Nat) ∧ tt = .int .i64 ((flatC Z C k).length : Nat) ∧ ff = .int .i64 (fge Z C z k) ∧ St w None wr []) (fun _ _ _ i _ => n - (intOf i).toNat)
    case atStart => exact ⟨0, by omega, rfl, rfl, rfl, rfl, s2⟩
    case round =>
      clear s2
      obtain ⟨k, hk, rfl, rfl, rfl, rfl, sr⟩ := hrel
      obtain ⟨g1, g2, g3⟩ := ge_flat HM.out.2 z k hk
      have hlk := flatC_len HM.out.2 k hk
      by_cases hlt : k < n
      · obtain ⟨v0, v1, bz, bc⟩ := HV.out k hlt
        obtain ⟨ib, off, rfl, e0, e1⟩ := RD.out.at2 sr.below hlt
        rw [v0] at e0
        rw [v1] at e1
        obtain ⟨o1, o2, o3, o4⟩ := HM.out.2 k hlt
        have FL := Lib.hid (flatC_len1 Z C k)
        have FN := Lib.hid (show nge Z C z (k + 1) = nge Z C z k + if z ≤ Z k then (C k).toNat else 0 from rfl)
        have FF := Lib.hid (show fge Z C z k = if nge Z C z k = 0 then -1 else ((flatC Z C k).length : Int) - (nge Z C z k : Int) from rfl)
        have FG := Lib.hid (show fge Z C z (k + 1) = if nge Z C z (k + 1) = 0 then -1 else ((flatC Z C (k + 1)).length : Int) - (nge Z C z (k + 1) : Int) from rfl)
        obtain ⟨N1, hN1⟩ : ∃ x, nge Z C z (k + 1) = x := ⟨_, rfl⟩
        obtain ⟨T1, hT1⟩ : ∃ x, (flatC Z C (k + 1)).length = x := ⟨_, rfl⟩
        obtain ⟨F1, hF1⟩ : ∃ x, fge Z C z (k + 1) = x := ⟨_, rfl⟩
        rw [hN1, hT1, hF1] at FG
        rw [hN1] at FN
        rw [hT1] at FL
        have H1 := Lib.hid hN1
        have H2 := Lib.hid hT1
        have H3 := Lib.hid hF1
        clear hN1 hT1 hF1
        generalize nge Z C z k = N0 at *
        generalize (flatC Z C k).length = T0 at *
        generalize fge Z C z k = F0 at *
        have N00 : ¬ z ≤ Z k → N0 = 0 := fun hh => by
          rcases Nat.eq_zero_or_pos N0 with e | e
          · exact e
          · obtain ⟨i, hi, hzi⟩ := g3 e
            have := Z_lt HM.out.2 k hlt i hi
            omega
        clear g2 g3 o1
        generalize Z k = x at *
        generalize C k = y at *
        by_cases q1 : 2000 < x
        · have z1 : decide (2000 < x) = true := decide_eq_true q1
          clear q1
          go_wp2_with fail
          go_ret
          exact ⟨rfl, sr.below⟩
        have z1 : decide (2000 < x) = false := decide_eq_false q1
        by_cases q2 : 20 < y
        · have z2 : decide (20 < y) = true := decide_eq_true q2
          clear q1 q2
          go_wp2_with fail
          go_ret
          exact ⟨rfl, sr.below⟩
        have z2 : decide (20 < y) = false := decide_eq_false q2
        have y0 : 0 ≤ y := by omega
        have b1 : ((N0 : Nat) : Int) ≤ 800 := by omega
        have b2 : ((T0 : Nat) : Int) ≤ 800 := by omega
        clear q1 q2
        by_cases q3 : z ≤ x
        · have z3 : decide (z ≤ x) = true := decide_eq_true q3
          by_cases q4 : N0 = 0
          · have f0 : F0 = -1 := by rw [FF.out, if_pos q4]
            have f1 : F1 = (T0 : Int) := by
              have h1 := FG.out; have h2 := FN.out; have h3 := FL.out
              rw [if_pos q3] at h2
              rw [if_neg (by omega)] at h1
              omega
            have n1 : (N0 : Int) + y = (N1 : Int) := by have h2 := FN.out; rw [if_pos q3] at h2; omega
            have t1 : (T0 : Int) + y = (T1 : Int) := by have h3 := FL.out; omega
            have R1 := Lib.hid f1
            have R2 := Lib.hid n1
            have R3 := Lib.hid t1
            subst f0
            clear FF FG FN FL f1 n1 t1 q4
            go_wp2_with fail
            go_roundw
            case rel => exact ⟨k + 1, by omega, by go_num, by rw [R2.out, H1.out], by rw [R3.out, H2.out], by rw [H3.out, R1.out], sr⟩
            case measure => simp [intOf]; omega
          · have f0 : ¬ F0 < 0 := by have h := FF.out; rw [if_neg q4] at h; omega
            have z4 : decide (F0 < 0) = false := decide_eq_false f0
            have f1 : F1 = F0 := by
              have h0 := FF.out; have h1 := FG.out; have h2 := FN.out; have h3 := FL.out
              rw [if_pos q3] at h2
              rw [if_neg q4] at h0
              rw [if_neg (by omega)] at h1
              omega
            have n1 : (N0 : Int) + y = (N1 : Int) := by have h2 := FN.out; rw [if_pos q3] at h2; omega
            have t1 : (T0 : Int) + y = (T1 : Int) := by have h3 := FL.out; omega
            have R1 := Lib.hid f1
            have R2 := Lib.hid n1
            have R3 := Lib.hid t1
            clear FF FG FN FL f1 n1 t1 q4 f0
            go_wp2_with fail
            go_roundw
            case rel => exact ⟨k + 1, by omega, by go_num, by rw [R2.out, H1.out], by rw [R3.out, H2.out], by rw [H3.out, R1.out], sr⟩
            case measure => simp [intOf]; omega
        · have z3 : decide (z ≤ x) = false := decide_eq_false q3
          have n1 : N1 = N0 := by have h2 := FN.out; rw [if_neg q3] at h2; omega
          have n0 : N0 = 0 := N00 q3
          have t1 : (T0 : Int) + y = (T1 : Int) := by have h3 := FL.out; omega
          have f1 : F1 = F0 := by rw [FF.out, FG.out, if_pos n0, if_pos (by omega)]
          have R1 := Lib.hid f1
          have R2 := Lib.hid n1
          have R3 := Lib.hid t1
          clear FF FG FN FL f1 n1 t1 q3
          go_wp2_with fail
          go_roundw
          case rel => exact ⟨k + 1, by omega, by go_num, by rw [H1.out, R2.out], by rw [R3.out, H2.out], by rw [H3.out, R1.out], sr⟩
          case measure => simp [intOf]; omega
      · obtain rfl : k = n := by omega
        have NW := Lib.hid (new_o (w := wr) (cap := cap) sr (RD.out.below sr.below (Nat.le_refl _)) HV.out HM.out)
        have OK0 := Lib.hid (new_ok HM.out)
        have hlen := flatC_pos HM.out
        have GI := Lib.hid (fun h1 i f hf hi => gets_i (z := z) HM.out h1 (f := f) (i := i) hf hi)
        have GE := Lib.hid (fun h1 f hf hi => gets_end (z := z) HM.out h1 (f := f) hf hi)
        have GN := Lib.hid (fun h => gets_no (z := z) HM.out h)
        have FF := Lib.hid (show fge Z C z k = if nge Z C z k = 0 then -1 else ((flatC Z C k).length : Int) - (nge Z C z k : Int) from rfl)
        clear sr g2 g3
        generalize fge Z C z k = F0 at *
        generalize nge Z C z k = N0 at *
        generalize flatC Z C k = zs at *
        go_wp2_with fail
        refine NW.out.mono ?_
        rintro e w3 ⟨p, rfl, s3'⟩
        have s3 : St w None w3 [PoolR p zs.length (gotten zs 0 0)] := by rw [gotten_zero]; exact s3'
        clear s3' NW
        go_wp2_with fail
        refine (count_o s3 0 rfl).mono ?_
        rintro e w4 ⟨rfl, s4'⟩
        have s4 : St w None w4 [PoolR p zs.length (gotten zs 0 0)] := s4'
        clear s4' s3
        by_cases q : z < 1 ∨ N0 = 0
        · have G := GN.out q
          rw [← gotten_zero zs 0] at G
          have GO := Lib.hid (get_o s4 0 rfl (gotten_ok OK0.out 0 0) G)
          clear s4 G
          by_cases q1 : z < 1
          · have z1 : decide (z < 1) = true := decide_eq_true q1
            go_wp2_with fail
            refine GO.out.mono ?_
            rintro e w5 ⟨rfl, s5⟩
            go_wp2_with fail
            go_ret
            exact ⟨rfl, (s5.alloc _).below⟩
          · obtain rfl : N0 = 0 := by omega
            have z1 : decide (z < 1) = false := decide_eq_false q1
            go_wp2_with fail
            refine GO.out.mono ?_
            rintro e w5 ⟨rfl, s5⟩
            go_wp2_with fail
            go_ret
            exact ⟨rfl, (s5.alloc _).below⟩
        · have z1 : decide (z < 1) = false := decide_eq_false (by omega)
          have z2 : ((N0 : Int) == 0) = false := beq_eq_false_iff_ne.2 (by omega)
          obtain ⟨f, hf⟩ : ∃ f, zs.length - N0 = f := ⟨_, rfl⟩
          have hF : F0 = (f : Int) := by have h := FF.out; rw [if_neg (by omega)] at h; omega
          subst hF
          have s5 : St w None w4 [PoolR p zs.length (gotten zs f 0)] := by rw [gotten_zero] at s4 ⊢; exact s4
          clear s4 FF
          go_wp2_with fail
          go_loopw [13] (fun i wr => ∃ m : Nat, m ≤ N0 ∧ i = .int .i64 m ∧ St w None wr [PoolR p zs.length (gotten zs f m)]) (fun i _ => N0 - (intOf i).toNat)
          case atStart => exact ⟨0, by omega, rfl, s5⟩
          case round =>
            clear s5
            obtain ⟨m, hm, rfl, sr⟩ := hrel
            by_cases hlt : m < N0
            · have GO := Lib.hid (get_o sr 0 rfl (gotten_ok OK0.out f m) (GI.out (by omega) m f hf.symm hlt))
              clear sr
              go_wp2_with fail
              refine GO.out.mono ?_
              rintro e w6 ⟨rfl, s6'⟩
              have s6 : St w None _ [PoolR p zs.length (gotten zs f (m + 1)), BlkR w6.heap.size 34 #[.int .i64 ((f : Int) + (m : Int)), .int .u64 1]] := s6'.box 34 #[.int .i64 ((f : Int) + (m : Int)), .int .u64 1]
              clear s6' GO
              obtain ⟨c0, c1⟩ := (s6.blk 1 rfl).two
              have FR := Lib.hid (free_o s6 0 rfl (gotten_ok OK0.out f (m + 1)) (zs.length - 1 - m) (by
                rw [gotten_frees]
                repeat' split
                all_goals omega))
              have hE : ((zs.length - 1 - m : Nat) : Int) = (zs.length : Int) - 1 - (m : Int) := by omega
              rw [hE] at FR
              clear s6 hE
              go_wp2_with fail
              refine FR.out.mono ?_
              rintro e w7 ⟨rfl, s7'⟩
              have s7 : St w None w7 [PoolR p zs.length (gotten zs f (m + 1)), BlkR w6.heap.size 34 #[.int .i64 ((f : Int) + (m : Int)), .int .u64 1]] := s7'
              clear s7' FR c0 c1
              have s8 : St w None w7 [PoolR p zs.length (gotten zs f (m + 1))] := s7.take 1
              go_wp2_with fail
              go_roundw
              case rel => exact ⟨m + 1, by omega, by go_num, s8⟩
              case measure => simp [intOf]; omega
            · obtain rfl : m = N0 := by omega
              have GO := Lib.hid (get_o sr 0 rfl (gotten_ok OK0.out f m) (GE.out (by omega) f hf.symm (by omega)))
              clear sr
              go_wp2_with fail
              refine GO.out.mono ?_
              rintro e w6 ⟨rfl, s6⟩
              go_wp2_with fail
              go_ret
              exact ⟨rfl, (s6.alloc _).below⟩
  · have HV := Lib.hid hV
    have MCf := Lib.hid (fun (w1 : World) (hb : Below w.heap.size w w1) => may_c (w := w1) (cap := cap) (rd.below hb (Nat.le_refl _)) hV hn false (decide_eq_false hm).symm)
    clear hm hV rd hn
    go_enter Try.func5, Try.ntmps5
    go_wp2_with fail
    refine (awake_o (St.begin w)).mono ?_
    rintro e w1 ⟨rfl, s1⟩
    have MC := Lib.hid (MCf.out w1 s1.below)
    clear MCf
    go_wp2_with fail
    refine (looks MC.out s1).mono ?_
    rintro e w2 ⟨rfl, s2⟩
    go_wp2_with fail
    go_ret
    exact ⟨rfl, s2.below⟩

set_option maxRecDepth 100000 in
theorem lifted (os : Os) (started : os.Started) (H : Type) (enc : TypeId × Value → H) :
    ReturnsInHanded {} Try.checked os 5 .any (Rows.poolGetsSpec.pre6 enc Try.prog Try.f5 Rows.poolGetsRow.domain false) (Rows.poolGetsSpec.post enc Try.prog Try.f5 false true false false) := by
  refine law_lifted (C := Try.checked) (tb := 4) own started (by kernel_rfl) Try.func5
    (ChangeSpec.witness6 (enc := enc) (C := Try.checked) false ⟨#[], #[.slice none 0 0, .int .i64 0], []⟩ 8 (by kernel_rfl) (by kernel_rfl) (by kernel_rfl) (by kernel_rfl)) laid (by kernel_rfl) (by kernel_rfl) Try.underlying4 rfl ?_
  intro W base args ds ps hval0 hA0 hlt
  have hval : ∀ (j : Nat) t v, Try.f5.params[j]? = some t → args[j]? = some v → Value.okWide Try.prog W .any base t v := hval0
  have hA : DataW.TrodAll enc Try.prog W 0 (fun _ => true) true Try.f5.params.toList args.toList ds ps := hA0
  clear hA0 hval0
  rw [Try.params5] at hA hval
  obtain ⟨v0, vs0, d0, ds0, p0, q0, hargs, rfl, rfl, h0, r0⟩ := trodAll_cons hA
  obtain ⟨v1, vs1, d1, ds1, p1, q1, rfl, rfl, rfl, h1, r1⟩ := trodAll_cons r0
  obtain ⟨rfl, rfl, rfl⟩ := trodAll_nil r1
  obtain rfl : args = #[v0, v1] := by cases args; simp_all
  obtain ⟨A0, n0, cap0, V0, rfl, le0, mx0, rd0, lf0⟩ := open_slice_spots (m := 2) (d := 20) (l := [(0, 3), (1, 3)]) Try.underlying22 (by kernel_rfl) (by decide) (by kernel_rfl) (hval 0 22 v0 rfl rfl) h0
  have f0_0 := fun j hj => leaf_int Try.underlying3 (lf0 0 3 (by simp) j hj)
  have f0_1 := fun j hj => leaf_int Try.underlying3 (lf0 1 3 (by simp) j hj)
  obtain ⟨a1, rfl, rfl, rfl, w1⟩ := open_int Try.underlying3 (hval 1 3 v1 rfl rfl) h1
  refine ⟨⟨rfl, rfl, rfl⟩, ?_⟩
  obtain ⟨Z, hZ⟩ := Go.Deep.choose_lt (f0_0)
  obtain ⟨C, hC⟩ := Go.Deep.choose_lt (f0_1)
  exact walk A0 n0 cap0 V0 Z C a1 W (by omega) rd0 (fun j hj => ⟨(hZ j hj).1, (hC j hj).1, bounds_i64 (hZ j hj).2, bounds_i64 (hC j hj).2⟩) (bounds_i64 w1)

theorem over : Rows.poolGetsRow.holds Try.pinned (OpenSpec.ofChange Rows.poolGetsSpec) :=
  OpenClaim.holds_of_wide 5 Try.f5 rfl rfl rfl rfl rfl rfl rfl ⟨rfl, rfl, rfl, rfl, rfl⟩ rfl rfl rfl rfl rfl (by kernel_rfl) Try.func5 (by kernel_rfl)
    (of_decide_eq_true (by kernel_rfl)) (by unfold Func.isWrapper; first | (rw [if_pos (by decide +kernel)]; kernel_rfl) | (rw [if_neg (by decide +kernel)]; exact ⟨rfl, rfl⟩))
    (fun os started H enc _ => lifted os started H enc)
theorem proved : Rows.PoolGetsSaid := over
#print axioms proved
end Go.Proofs.Ytceoflpoefehoaa.poolGets
