/-
  For all tasks and loads RtaLeast answers true, and changes nothing: an answer time is the least number that is what is wanted of it. No condition.
-/
import Derived.Test.YthbghenikooagaaRows
import Derived.Test.YthbghenikooagaaFr
import Derived.Test.YthbghenikooagaaRtaI
import Derived.Test.YthbghenikooagaaOpen
namespace Go.Proofs.Ythbghenikooagaa.rtaLeast
open Go.ChangeShapes Go.WideShapes Go.ChangeAt Go.RowKit
set_option linter.unusedVariables false
theorem own : ownKnob Try.prog.godebug = none := by kernel_rfl
theorem laid : laidOutB Try.prog = true := by kernel_rfl
set_option maxRecDepth 100000
set_option maxHeartbeats 2000000
theorem walk (A B : Option Addr) (n cap m capB : Nat) (T : Nat → Wk) (S : Nat → Ld) (w : World) (hn : n ≤ maxLen) (hm : m ≤ maxLen) (rd : Ts w A n T) (rdS : Ls w B m S) (ht : LTyped m S) :
    Calls Try.prog 5 #[.slice A n cap, .slice B m capB] w fun e w' => e = .returned (.bool true) ∧ Below w.heap.size w w' := by
  have RD := Lib.hid rd
  have TM := Lib.hid (fun W (hW : Below w.heap.size w W) => rtmay_c (cap := cap) (rd.below hW) hn _ rfl)
  have LM := Lib.hid (fun W (hW : Below w.heap.size w W) => rsmay_c (cap := capB) (rdS.below hW) ht hm _ rfl)
  have TI := Lib.hid (fun W (hW : Below w.heap.size w W) i o ho => time_c (cap := cap) (capB := capB) (rd.below hW) (rdS.below hW) ht hn hm i o ho)
  have WN := Lib.hid (fun W (hW : Below w.heap.size w W) hT hS i i0 i1 s h0 h1 r hr => wants_c (cap := cap) (capB := capB) (rd.below hW) (rdS.below hW) hT hS i i0 i1 s h0 h1 r hr)
  unfold maxLen at hn hm
  clear rd rdS ht
  by_cases h6 : 6 < n
  · have d1 : decide (6 < (n : Int)) = true := decide_eq_true (by omega)
    have d1' : decide (6 < n) = true := decide_eq_true h6
    go_enter Try.func5, Try.ntmps5
    go_wp2_with fail
    refine (awake_any w).mono ?_
    rintro e w1 ⟨rfl, hb1⟩
    go_wp2_with fail
    go_ret
    exact ⟨rfl, hb1⟩
  have d1 : decide (6 < (n : Int)) = false := decide_eq_false (by omega)
  have d1' : decide (6 < n) = false := decide_eq_false h6
  by_cases h7 : 6 < m
  · have d2 : decide (6 < (m : Int)) = true := decide_eq_true (by omega)
    have d2' : decide (6 < m) = true := decide_eq_true h7
    go_enter Try.func5, Try.ntmps5
    go_wp2_with fail
    refine (awake_any w).mono ?_
    rintro e w1 ⟨rfl, hb1⟩
    go_wp2_with fail
    go_ret
    exact ⟨rfl, hb1⟩
  have d2 : decide (6 < (m : Int)) = false := decide_eq_false (by omega)
  have d2' : decide (6 < m) = false := decide_eq_false h7
  go_enter Try.func5, Try.ntmps5
  go_wp2_with fail
  refine (awake_any w).mono ?_
  rintro e w1 ⟨rfl, hb1⟩
  go_wp2_with fail
  refine (TM.out w1 hb1).mono ?_
  rintro e w2 ⟨rfl, hb2⟩
  have B2 := Lib.hid (below_then hb1 hb2)
  clear hb1 hb2
  by_cases hT : TOK n T
  · have e1 : decide (TOK n T) = true := decide_eq_true hT
    rw [e1]
    have HT := Lib.hid hT
    clear e1 hT
    go_wp2_with fail
    refine (LM.out w2 B2.out).mono ?_
    rintro e w3 ⟨rfl, hb3⟩
    have B3 := Lib.hid (below_then B2.out hb3)
    clear hb3
    by_cases hS : SOK m S
    · have e1 : decide (SOK m S) = true := decide_eq_true hS
      rw [e1]
      have HS := Lib.hid hS
      clear e1 hS
      go_wp2_with fail
      go_loopw [5] (fun i wr => ∃ k : Nat, k ≤ n ∧ i = .int .i64 k ∧ (∀ j, j < k → (T j).per ≤ 300) ∧ Below w.heap.size w wr) (fun i _ => n - (intOf i).toNat)
      case atStart => exact ⟨0, by omega, rfl, (fun j hj => absurd hj (by omega)), B3.out⟩
      case round =>
        obtain ⟨k, hk, rfl, h300, hbl⟩ := hrel
        have H3 := Lib.hid h300
        clear h300
        by_cases hlt : k < n
        · obtain ⟨ib, off, rfl, -, -, e2, -⟩ := RD.out.at_ hbl hlt
          obtain ⟨r, hr⟩ : ∃ r, (T k).per = r := ⟨_, rfl⟩
          rw [hr] at e2
          have HR2 := Lib.hid hr
          clear hr
          by_cases q : 300 < r
          · have z1 : decide (300 < r) = true := decide_eq_true q
            go_wp2_with fail
            go_ret
            exact ⟨rfl, hbl⟩
          · have z1 : decide (300 < r) = false := decide_eq_false q
            go_wp2_with fail
            go_roundw
            case rel =>
              refine ⟨k + 1, by omega, by go_num, fun j hj => ?_, hbl⟩
              by_cases e : j = k
              · rw [e, HR2.out]; omega
              · exact H3.out j (by omega)
            case measure => simp [intOf]; omega
        · obtain rfl : k = n := by omega
          clear hlt hk
          go_wp2_with fail
          go_loopw [6] (fun i wr => ∃ j : Nat, j ≤ k ∧ i = .int .i64 j ∧ Below w.heap.size w wr) (fun i _ => k - (intOf i).toNat)
          case atStart => exact ⟨0, by omega, rfl, hbl⟩
          case round =>
            clear hbl
            obtain ⟨i, hi, rfl, hbl⟩ := hrel
            by_cases hlt : i < k
            · obtain ⟨o, ho⟩ : ∃ o, timeO k T m S (i : Int) = o := ⟨_, rfl⟩
              have TK := Lib.hid (TI.out wr hbl i o ho.symm)
              have HO : o = lfp (T i).cost.toNat (T i).dead.toNat (whoL T S k m i) := by
                rw [← ho]; unfold timeO; rw [if_pos ⟨⟨by omega, by omega⟩, HT.out, HS.out⟩, Int.toNat_natCast]
              obtain ⟨-, o1, o2, o3, o4⟩ := HT.out.2 i hlt
              have o5 := H3.out i hlt
              have CE := Lib.hid (fun W (hW : Below w.heap.size w W) => RD.out.at_ hW (k := i) hlt)
              obtain ⟨ri, hri⟩ : ∃ ri, oNat o = ri := ⟨_, rfl⟩
              rw [hri] at TK
              obtain ⟨bs, hbs⟩ : ∃ b, o.isSome = b := ⟨_, rfl⟩
              rw [hbs] at TK
              have HBS := Lib.hid hbs
              have HRI := Lib.hid hri
              have HOO := Lib.hid HO
              clear ho HO hri hbs
              go_wp2_with fail
              refine TK.out.mono ?_
              rintro e w5 ⟨rfl, hb5⟩
              have B5 := Lib.hid (below_then hbl hb5)
              obtain ⟨ib, off, rfl, -, e1, -, e3⟩ := CE.out w5 B5.out
              obtain ⟨c, hc⟩ : ∃ c, (T i).cost = c := ⟨_, rfl⟩
              obtain ⟨d, hd⟩ : ∃ d, (T i).dead = d := ⟨_, rfl⟩
              rw [hc] at e1 o1 o2 HOO
              rw [hd] at e3 o2 o3 HOO
              have HC := Lib.hid hc
              have HD := Lib.hid hd
              clear hb5 hbl TK hc hd
              go_wp2_with fail
              go_loopw [9, 10] (fun t is wr => ∃ tt : Int, t = .int .u64 tt ∧ c ≤ tt ∧ tt ≤ d + 1 ∧ Below w.heap.size w wr) (fun t _ _ => d.toNat + 1 - (intOf t).toNat)
              case atStart => exact ⟨c, rfl, by omega, by omega, B5.out⟩
              case round =>
                clear e1 e3
                obtain ⟨t, rfl, t0, t1, hbl⟩ := hrel
                obtain ⟨ib', off', ha, -, -, -, e3⟩ := CE.out wr hbl
                injection ha with ha
                injection ha with ha1 ha2
                subst ha1 ha2
                rw [HD.out] at e3
                by_cases hle : t ≤ d
                · have z1 : decide (t ≤ d) = true := decide_eq_true hle
                  obtain ⟨y, hy⟩ : ∃ y : Int, ((Fx c.toNat (whoL T S k m i) t.toNat : Nat) : Int) = y := ⟨_, rfl⟩
                  have WW := Lib.hid (WN.out wr hbl HT.out HS.out i (by omega) (by omega) t (by omega) (by omega) y (by rw [Int.toNat_natCast, HC.out]; exact hy.symm))
                  have HY := Lib.hid hy
                  have BL := Lib.hid hbl
                  clear hy hbl
                  cases bs with
                  | false =>
                    obtain rfl : o = none := by have := HBS.out; cases o with
                      | none => rfl
                      | some r => cases this
                    have hne := lfp_none.1 HOO.out.symm t.toNat (by omega)
                    have z2 : (y == t) = false := beq_eq_false_iff_ne.2 (by have := HY.out; omega)
                    clear hne
                    go_wp2_with fail
                    refine WW.out.mono ?_
                    rintro e w6 ⟨rfl, hb6⟩
                    go_wp2_with fail
                    go_roundw
                    case rel => exact ⟨t + 1, rfl, by omega, by omega, below_then BL.out hb6⟩
                    case measure => simp [intOf]; omega
                  | true =>
                    obtain ⟨r, rfl⟩ : ∃ r, o = some r := Option.isSome_iff_exists.1 HBS.out
                    have hrr : (r : Int) = ri := HRI.out
                    have hls := lfp_some.1 HOO.out.symm
                    by_cases heq : y = t
                    · have z2 : (y == t) = true := beq_iff_eq.2 heq
                      have hrt := lfp_le HOO.out.symm (t := t.toNat) (by have := HY.out; omega)
                      have z3 : decide (t < ri) = false := decide_eq_false (by omega)
                      obtain ⟨b, hb⟩ : ∃ b, (t == ri) = b := ⟨_, rfl⟩
                      clear heq hls hrt hrr
                      cases b with
                      | true =>
                        go_wp2_with fail
                        refine WW.out.mono ?_
                        rintro e w6 ⟨rfl, hb6⟩
                        go_wp2_with fail
                        go_roundw
                        case rel => exact ⟨t + 1, rfl, by omega, by omega, below_then BL.out hb6⟩
                        case measure => simp [intOf]; omega
                      | false =>
                        go_wp2_with fail
                        refine WW.out.mono ?_
                        rintro e w6 ⟨rfl, hb6⟩
                        go_wp2_with fail
                        go_roundw
                        case rel => exact ⟨t + 1, rfl, by omega, by omega, below_then BL.out hb6⟩
                        case measure => simp [intOf]; omega
                    · have z2 : (y == t) = false := beq_eq_false_iff_ne.2 heq
                      have z3 : (t == ri) = false := beq_eq_false_iff_ne.2 fun e => heq (by
                        have h1 := HY.out
                        have h2 := hls.2.1
                        have h3 : t.toNat = r := by omega
                        rw [h3] at h1
                        omega)
                      clear heq hls hrr
                      go_wp2_with fail
                      refine WW.out.mono ?_
                      rintro e w6 ⟨rfl, hb6⟩
                      go_wp2_with fail
                      go_roundw
                      case rel => exact ⟨t + 1, rfl, by omega, by omega, below_then BL.out hb6⟩
                      case measure => simp [intOf]; omega
                · have z1 : decide (t ≤ d) = false := decide_eq_false hle
                  go_wp2_with fail
                  go_roundw
                  case rel => exact ⟨i + 1, by omega, by go_num, hbl⟩
                  case measure => simp [intOf]; omega
            · go_wp2_with fail
              go_ret
              exact ⟨rfl, hbl⟩
    · have e1 : decide (SOK m S) = false := decide_eq_false hS
      rw [e1]
      clear e1 hS
      go_wp2_with fail
      go_ret
      exact ⟨rfl, B3.out⟩
  · have e1 : decide (TOK n T) = false := decide_eq_false hT
    rw [e1]
    clear e1 hT
    go_wp2_with fail
    go_ret
    exact ⟨rfl, B2.out⟩

set_option maxRecDepth 100000 in
theorem lifted (os : Os) (started : os.Started) (H : Type) (enc : TypeId × Value → H) :
    ReturnsInHanded {} Try.checked os 5 .any (Rows.rtaLeastSpec.pre6 enc Try.prog Try.f5 Rows.rtaLeastRow.domain false) (Rows.rtaLeastSpec.post enc Try.prog Try.f5 false true false false) := by
  refine law_lifted (C := Try.checked) (tb := 4) own started (by kernel_rfl) Try.func5
    (ChangeSpec.witness6 (enc := enc) (C := Try.checked) false ⟨#[], #[.slice none 0 0, .slice none 0 0], []⟩ 8 (by kernel_rfl) (by kernel_rfl) (by kernel_rfl) (by kernel_rfl)) laid (by kernel_rfl) (by kernel_rfl) Try.underlying4 rfl ?_
  intro W base args ds ps hval0 hA0 hlt
  have hval : ∀ (j : Nat) t v, Try.f5.params[j]? = some t → args[j]? = some v → Value.okWide Try.prog W .any base t v := hval0
  have hA : DataW.TrodAll enc Try.prog W 0 (fun _ => true) true Try.f5.params.toList args.toList ds ps := hA0
  clear hA0 hval0
  rw [Try.params5] at hA hval
  obtain ⟨v0, vs0, d0, ds0, p0, q0, hargs, rfl, rfl, h0, r0⟩ := trodAll_cons hA
  obtain ⟨v1, vs1, d1, ds1, p1, q1, rfl, rfl, rfl, h1, r1⟩ := trodAll_cons r0
  obtain ⟨rfl, rfl, rfl⟩ := trodAll_nil r1
  obtain rfl : args = #[v0, v1] := by cases args; simp_all
  obtain ⟨A0, n0, cap0, V0, rfl, le0, mx0, rd0, lf0⟩ := open_slice_spots (m := 4) (d := 20) (l := [(0, 3), (1, 24), (2, 24), (3, 24)]) Try.underlying22 (by kernel_rfl) (by decide) (by kernel_rfl) (hval 0 22 v0 rfl rfl) h0
  have f0_0 := fun j hj => leaf_int Try.underlying3 (lf0 0 3 (by simp) j hj)
  have f0_1 := fun j hj => leaf_int Try.underlying24 (lf0 1 24 (by simp) j hj)
  have f0_2 := fun j hj => leaf_int Try.underlying24 (lf0 2 24 (by simp) j hj)
  have f0_3 := fun j hj => leaf_int Try.underlying24 (lf0 3 24 (by simp) j hj)
  obtain ⟨A1, n1, cap1, V1, rfl, le1, mx1, rd1, lf1⟩ := open_slice_spots (m := 2) (d := 20) (l := [(0, 3), (1, 24)]) Try.underlying23 (by kernel_rfl) (by decide) (by kernel_rfl) (hval 1 23 v1 rfl rfl) h1
  have f1_0 := fun j hj => leaf_int Try.underlying3 (lf1 0 3 (by simp) j hj)
  have f1_1 := fun j hj => leaf_int Try.underlying24 (lf1 1 24 (by simp) j hj)
  refine ⟨⟨rfl, rfl, rfl⟩, ?_⟩
  obtain ⟨T, hT⟩ := Go.Deep.choose_lt (n := n0) (p := fun j (d : Wk) => V0 j 0 = .int .i64 d.prio ∧ V0 j 1 = .int .u64 d.cost ∧ V0 j 2 = .int .u64 d.per ∧ V0 j 3 = .int .u64 d.dead) (fun j hj => by
    obtain ⟨x0, h0, -⟩ := f0_0 j hj
    obtain ⟨x1, h1, -⟩ := f0_1 j hj
    obtain ⟨x2, h2, -⟩ := f0_2 j hj
    obtain ⟨x3, h3, -⟩ := f0_3 j hj
    exact ⟨⟨x0, x1, x2, x3⟩, h0, h1, h2, h3⟩)
  obtain ⟨S, hS⟩ := Go.Deep.choose_lt (n := n1) (p := fun j (d : Ld) => V1 j 0 = .int .i64 d.b ∧ V1 j 1 = .int .u64 d.per ∧ d.typed) (fun j hj => by
    obtain ⟨x0, h0, w0⟩ := f1_0 j hj
    obtain ⟨x1, h1, w1⟩ := f1_1 j hj
    exact ⟨⟨x0, x1⟩, h0, h1, bounds_i64 w0, bounds_u64 w1⟩)
  exact walk A0 A1 n0 cap0 n1 cap1 T S W (by omega) (by omega) (ts_of rd0 hT) (ls_of rd1 fun j hj => ⟨(hS j hj).1, (hS j hj).2.1⟩) (fun j hj => (hS j hj).2.2)

theorem over : Rows.rtaLeastRow.holds Try.pinned (OpenSpec.ofChange Rows.rtaLeastSpec) :=
  OpenClaim.holds_of_wide 5 Try.f5 rfl rfl rfl rfl rfl rfl rfl ⟨rfl, rfl, rfl, rfl, rfl⟩ rfl rfl rfl rfl rfl (by kernel_rfl) Try.func5 (by kernel_rfl)
    (of_decide_eq_true (by kernel_rfl)) (by unfold Func.isWrapper; first | (rw [if_pos (by decide +kernel)]; kernel_rfl) | (rw [if_neg (by decide +kernel)]; exact ⟨rfl, rfl⟩))
    (fun os started H enc _ => lifted os started H enc)
theorem proved : Rows.RtaLeastSaid := over
#print axioms proved
end Go.Proofs.Ythbghenikooagaa.rtaLeast
