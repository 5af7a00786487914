/-
  For every share, phase and script SharePlays answers true, and changes nothing: whatever is taken, and whenever, each answer is what the document says. No condition.
-/
import Derived.Test.YtlmfcdfodlcjaaaRows
import Derived.Test.YtlmfcdfodlcjaaaFr
import Derived.Test.YtlmfcdfodlcjaaaShareX
import Derived.Test.YtlmfcdfodlcjaaaRd
import Derived.Test.YtlmfcdfodlcjaaaOpen
import Derived.Deep.RegionHeld3
import Derived.Deep.DrawnRows
import Derived.LoopTactic
namespace Go.Proofs.Ytlmfcdfodlcjaaa.sharePlays
open Go.ChangeShapes Go.WideShapes Go.ChangeAt Go.RowKit
set_option linter.unusedVariables false
theorem own : ownKnob Try.prog.godebug = none := by kernel_rfl
theorem laid : laidOutB Try.prog = true := by kernel_rfl
set_option maxRecDepth 100000
set_option maxHeartbeats 1000000
attribute [local go_sem ↓] Go.wp_at_zero Go.wp_at_succ
theorem none_ (B P ph : Int) (A : Option Addr) (q cap : Nat) (w : World) (h : ¬ (1 ≤ B ∧ B ≤ P ∧ P ≤ 1099511627776)) :
    Calls Try.prog 3 #[.agg #[.int .u64 B, .int .u64 P], .int .u64 ph, .slice A q cap] w fun r w' => r = .returned (.bool true) ∧ Below w.heap.size w w' := by
  have sb : St w None _ [_] := (St.begin w).box 24 #[.int .u64 B, .int .u64 P]
  obtain ⟨b0, b1⟩ := (sb.blk 0 rfl).two
  go_enter Try.func3, Try.ntmps3
  go_wp2_with fail
  refine (looks (awake_any _) sb).mono ?_
  rintro r w1 ⟨rfl, s1⟩
  clear b0 b1
  obtain ⟨b0, b1⟩ := (s1.blk 0 rfl).two
  go_wp2_with fail
  refine (looks (new_arg B P ph _ h) s1).mono ?_
  rintro r w2 ⟨rfl, s2⟩
  clear b0 b1
  go_wp2_with fail
  have qq := (s2.blk 0 rfl).two
  go_region_held3 (fun w' => w'.cell? ⟨w.heap.size, 0, none⟩ = some (.int .u64 B) ∧ w'.cell? ⟨w.heap.size, 1, none⟩ = some (.int .u64 P)) (go_keep)
    (first
      | (go_at_call 10; refine (looks (may_no B P _ h) (s2.drewN _)).mono ?_; rintro r' w3 ⟨rfl, s3⟩; have q3 := (s3.blk 0 rfl).two)
      | (go_at_call 10; refine (looks (may_no B P _ h) s2.drew).mono ?_; rintro r' w3 ⟨rfl, s3⟩; have q3 := (s3.blk 0 rfl).two)
      | (go_at_call 11; refine (looks (rsmay_no B P _ h) s3).mono ?_; rintro r' w4 ⟨rfl, s4⟩; have q4 := (s4.blk 0 rfl).two))
  obtain ⟨b0, b1⟩ := q4
  go_wp2_with fail
  refine (looks (rsmay_no B P _ h) s4).mono ?_
  rintro r w5 ⟨rfl, s5⟩
  go_wp2
  go_ret
  exact ⟨rfl, s5.below⟩
theorem hor (B P ph : Int) (A : Option Addr) (q cap : Nat) (w : World) (h : 1 ≤ B ∧ B ≤ P ∧ P ≤ 1099511627776) (hp : ¬ ph < 4611686018427387904) :
    Calls Try.prog 3 #[.agg #[.int .u64 B, .int .u64 P], .int .u64 ph, .slice A q cap] w fun r w' => r = .returned (.bool true) ∧ Below w.heap.size w w' := by
  have d1 : decide (4611686018427387904 ≤ ph) = true := decide_eq_true (by omega)
  have sb : St w None _ [_] := (St.begin w).box 24 #[.int .u64 B, .int .u64 P]
  obtain ⟨b0, b1⟩ := (sb.blk 0 rfl).two
  go_enter Try.func3, Try.ntmps3
  go_wp2_with fail
  refine (looks (awake_any _) sb).mono ?_
  rintro r w1 ⟨rfl, s1⟩
  clear b0 b1
  obtain ⟨b0, b1⟩ := (s1.blk 0 rfl).two
  go_wp2_with fail
  refine (looks (new_hor B P ph _ h (by omega)) s1).mono ?_
  rintro r w2 ⟨rfl, s2⟩
  clear b0 b1
  go_wp2_with fail
  have qq := (s2.blk 0 rfl).two
  go_region_held3 (fun w' => w'.cell? ⟨w.heap.size, 0, none⟩ = some (.int .u64 B) ∧ w'.cell? ⟨w.heap.size, 1, none⟩ = some (.int .u64 P)) (go_keep)
    (first
      | (go_at_call 10; refine (looks (may_yes B P _ h) (s2.drewN _)).mono ?_; rintro r' w3 ⟨rfl, s3⟩; have q3 := (s3.blk 0 rfl).two)
      | (go_at_call 10; refine (looks (may_yes B P _ h) s2.drew).mono ?_; rintro r' w3 ⟨rfl, s3⟩; have q3 := (s3.blk 0 rfl).two)
      | (go_at_call 11; refine (looks (rsmay_yes B P _ h) s3).mono ?_; rintro r' w4 ⟨rfl, s4⟩; have q4 := (s4.blk 0 rfl).two))
  obtain ⟨b0, b1⟩ := q4
  go_wp2_with fail
  refine (looks (rsmay_yes B P _ h) s4).mono ?_
  rintro r w5 ⟨rfl, s5⟩
  go_wp2
  go_ret
  exact ⟨rfl, s5.below⟩
theorem walk (B P ph : Int) (A : Option Addr) (q cap : Nat) (V : Nat → Nat → Value) (w : World) (bp : 0 ≤ ph ∧ ph ≤ 18446744073709551615) (hm : q ≤ maxLen) (rd : RdM w A q 3 V) (f0 : ∀ j, j < q → ∃ z, V j 0 = .int .i64 z) (f1 : ∀ j, j < q → ∃ z, V j 1 = .int .u64 z ∧ (Lit.int .u64 z).wf = true) (f2 : ∀ j, j < q → ∃ z, V j 2 = .int .u64 z ∧ (Lit.int .u64 z).wf = true) :
    Calls Try.prog 3 #[.agg #[.int .u64 B, .int .u64 P], .int .u64 ph, .slice A q cap] w fun r w' => r = .returned (.bool true) ∧ Below w.heap.size w w' := by
  unfold maxLen at hm
  by_cases h : 1 ≤ B ∧ B ≤ P ∧ P ≤ 1099511627776
  · by_cases hp : ph < 4611686018427387904
    · have d1 : decide (4611686018427387904 ≤ ph) = false := decide_eq_false (by omega)
      have sb : St w None _ [_] := (St.begin w).box 24 #[.int .u64 B, .int .u64 P]
      obtain ⟨b0, b1⟩ := (sb.blk 0 rfl).two
      go_enter Try.func3, Try.ntmps3
      go_wp2_with fail
      refine (looks (awake_any _) sb).mono ?_
      rintro r w1 ⟨rfl, s1⟩
      clear b0 b1
      obtain ⟨b0, b1⟩ := (s1.blk 0 rfl).two
      go_wp2_with fail
      refine (met_new s1 h bp.1 hp).mono ?_
      rintro r w2 ⟨g, rfl, s2'⟩
      have s2 : St w None w2 [_, _] := s2'
      clear b0 b1 s2'
      go_wp2_with fail
      have qq := (s2.blk 0 rfl).two
      go_region_held3 (fun w' => w'.cell? ⟨w.heap.size, 0, none⟩ = some (.int .u64 B) ∧ w'.cell? ⟨w.heap.size, 1, none⟩ = some (.int .u64 P)) (go_keep)
        (first
          | (go_at_call 10; refine (looks (may_yes B P _ h) (s2.drewN _)).mono ?_; rintro r' w3 ⟨rfl, s3⟩; have q3 := (s3.blk 0 rfl).two)
          | (go_at_call 10; refine (looks (may_yes B P _ h) s2.drew).mono ?_; rintro r' w3 ⟨rfl, s3⟩; have q3 := (s3.blk 0 rfl).two)
          | (go_at_call 11; refine (looks (rsmay_yes B P _ h) s3).mono ?_; rintro r' w4 ⟨rfl, s4⟩; have q4 := (s4.blk 0 rfl).two))
      obtain ⟨b0, b1⟩ := q4
      go_wp2_with fail
      refine (looks (rsmay_yes B P _ h) s4).mono ?_
      rintro r w5 ⟨rfl, s5⟩
      clear b0 b1
      obtain ⟨b0, b1⟩ := (s5.blk 0 rfl).two
      go_wp2_with fail
      refine (mx_new s5 B P ph).mono ?_
      rintro r w6 ⟨r, rfl, s6'⟩
      have s6 : St w None w6 [_, _, _] := s6'
      have hX0 : XOK B P ph ph [] := ⟨h, ⟨bp.1, Int.le_refl _, hp⟩, fun p hp => by simp at hp, fun K => by simp [sw]; omega⟩
      clear b0 b1 s6' s5 s4 s3 s2 s1 sb qq q3
      go_wp2_with fail
      go_loopw [10, 11] (fun nw i wr => ∃ (k : Nat) (now N : Int) (ws : List (Int × Int)), k ≤ q ∧ k ≤ 100 ∧ i = .int .i64 k ∧ nw = .int .u64 now ∧ 0 ≤ now ∧ ws.length ≤ k ∧ XOK B P ph N ws ∧ St w None wr [BlkR w.heap.size 24 #[.int .u64 B, .int .u64 P], MetR g B P ph N ws, MxR r B P ph N ws]) (fun _ i _ => q - (intOf i).toNat)
      case atStart => exact ⟨0, ph, ph, [], by omega, by omega, rfl, rfl, by omega, by simp, hX0, s6⟩
      case round =>
        clear s6 hX0
        obtain ⟨k, now, N, ws, hk, hk2, rfl, rfl, hnow, hwl, hw, sr⟩ := hrel
        by_cases hlt : k < q
        · by_cases hlt2 : k < 100
          · obtain ⟨y, hy⟩ := f0 k hlt
            obtain ⟨z, hz, wz⟩ := f1 k hlt
            obtain ⟨n, hn, wn⟩ := f2 k hlt
            have bz := bounds_u64 wz
            have bn := bounds_u64 wn
            obtain ⟨ib, off, rfl, e0, e1, e2⟩ := rd.at3 sr.below hlt
            rw [hy] at e0; rw [hz] at e1; rw [hn] at e2
            obtain ⟨x, hx⟩ : ∃ x, IntKind.u64.wrap (now + z) = x := ⟨_, rfl⟩
            have bx : 0 ≤ x := by rw [← hx]; unfold IntKind.wrap; simp [IntKind.signed, IntKind.bits]; omega
            clear hy hz hn wz wn
            have sd : St w None _ [_, _, _, _] := sr.box 35 #[.int .i64 y, .int .u64 z, .int .u64 n]
            obtain ⟨q0, q1, q2⟩ := (sd.blk 3 rfl).three
            by_cases hy0 : y = 0
            · subst hy0
              obtain ⟨v, f, N', ws', hR⟩ := takeR_ex B P ph N ws x n
              have hx1 := hR.xok bn.1 hw
              obtain ⟨v2, f2', N2, hl1⟩ := leftR_ex B P ph N' ws' x
              have hl2 := hl1
              have hx2 := hx1
              have hw2 : ws'.length ≤ k + 1 := by
                obtain ⟨l, _, ⟨_, _, rfl⟩ | ⟨_, _, rfl⟩⟩ := hR
                · omega
                · simp; omega
              obtain ⟨M', rfl⟩ : ∃ M', M' = N' := ⟨_, rfl⟩
              have HR := Lib.hid hR
              have HW := Lib.hid hw
              clear hR hw
              go_wp2_with fail
              refine (met_take sd 1 rfl HW.out bn.1 HR.out).mono ?_
              rintro e w6 ⟨rfl, s6'⟩
              have s6 : St w None w6 [_, _, MxR r B P ph N ws, _] := s6'
              clear s6' e0 e1 e2 q0 q1 q2 sd
              obtain ⟨q0, q1, q2⟩ := (s6.blk 3 rfl).three
              go_wp2_with fail
              refine (St.call (mx_take HW.out bx bn.1 (by omega) HR.out) (MxR.ok _ _ _ _ _ _) s6 2 rfl).mono ?_
              rintro e w7 ⟨rfl, s7'⟩
              have s7 : St w None w7 [_, MetR g B P ph M' ws', MxR r B P ph M' ws'] := St.take s7' 3
              clear s7' s6 q0 q1 q2
              have HL1 := Lib.hid hl1
              have HL2 := Lib.hid hl2
              have HX1 := Lib.hid hx1
              have HX2 := Lib.hid hx2
              have HX3 := Lib.hid (hl1.xok hx1)
              have HW2 := Lib.hid hw2
              clear hl1 hl2 hx1 hx2 hw2
              go_wp2_with fail
              refine (met_left s7 1 rfl HX1.out HL1.out).mono ?_
              rintro e w8 ⟨rfl, s8'⟩
              have s8 : St w None w8 [_, _, MxR r B P ph M' ws'] := s8'
              clear s8' s7
              go_wp2_with fail
              refine (St.call (mx_left HX2.out bx HL2.out) (MxR.ok _ _ _ _ _ _) s8 2 rfl).mono ?_
              rintro e w9 ⟨rfl, s9'⟩
              have s9 : St w None w9 [_, _, _] := s9'
              clear s9' s8
              go_wp2
              go_roundw
              case rel => exact ⟨k + 1, x, _, ws', by omega, by omega, by go_num, rfl, by omega, HW2.out, HX3.out, s9⟩
              case measure => simp [intOf]; omega
            · have z0 : (y == 0) = false := beq_eq_false_iff_ne.2 hy0
              obtain ⟨v, f, N', M', hR⟩ := waitR_ex hw x
              obtain ⟨hx1, hx2⟩ := hR.xok hw
              obtain ⟨v2, f2', N2, hl1, hl2⟩ := hR.left
              obtain ⟨ws', rfl⟩ : ∃ ws', ws' = ws := ⟨_, rfl⟩
              have hw2 : ws'.length ≤ k + 1 := by omega
              have HR := Lib.hid hR
              have HW := Lib.hid hw
              clear hR hw
              go_wp2_with fail
              refine (met_wait sd 1 rfl HW.out HR.out).mono ?_
              rintro e w6 ⟨rfl, s6'⟩
              have s6 : St w None w6 [_, _, MxR r B P ph N ws', _] := s6'
              clear s6' e0 e1 e2 q0 q1 q2 sd
              go_wp2_with fail
              refine (St.call (mx_wait HW.out bx HR.out) (MxR.ok _ _ _ _ _ _) s6 2 rfl).mono ?_
              rintro e w7 ⟨rfl, s7'⟩
              have s7 : St w None w7 [_, MetR g B P ph N' ws', MxR r B P ph M' ws'] := St.take s7' 3
              clear s7' s6
              have HL1 := Lib.hid hl1
              have HL2 := Lib.hid hl2
              have HX1 := Lib.hid hx1
              have HX2 := Lib.hid hx2
              have HX3 := Lib.hid (hl1.xok hx1)
              have HW2 := Lib.hid hw2
              clear hl1 hl2 hx1 hx2 hw2
              go_wp2_with fail
              refine (met_left s7 1 rfl HX1.out HL1.out).mono ?_
              rintro e w8 ⟨rfl, s8'⟩
              have s8 : St w None w8 [_, _, MxR r B P ph M' ws'] := s8'
              clear s8' s7
              go_wp2_with fail
              refine (St.call (mx_left HX2.out bx HL2.out) (MxR.ok _ _ _ _ _ _) s8 2 rfl).mono ?_
              rintro e w9 ⟨rfl, s9'⟩
              have s9 : St w None w9 [_, _, _] := s9'
              clear s9' s8
              go_wp2
              go_roundw
              case rel => exact ⟨k + 1, x, _, ws', by omega, by omega, by go_num, rfl, by omega, HW2.out, HX3.out, s9⟩
              case measure => simp [intOf]; omega
          · go_wp2
            go_ret
            exact ⟨rfl, sr.below⟩
        · go_wp2
          go_ret
          exact ⟨rfl, sr.below⟩
    · exact hor B P ph A q cap w h hp
  · exact none_ B P ph A q cap w h

set_option maxRecDepth 100000 in
theorem lifted (os : Os) (started : os.Started) (H : Type) (enc : TypeId × Value → H) :
    ReturnsInHanded {} Try.checked os 3 .any (Rows.sharePlaysSpec.pre6 enc Try.prog Try.f3 Rows.sharePlaysRow.domain false) (Rows.sharePlaysSpec.post enc Try.prog Try.f3 false true false false) := by
  refine law_lifted (C := Try.checked) (tb := 4) own started (by kernel_rfl) Try.func3
    (ChangeSpec.witness6 (enc := enc) (C := Try.checked) false ⟨#[], #[.agg #[.int .u64 0, .int .u64 0], .int .u64 0, .slice none 0 0], []⟩ 8 (by kernel_rfl) (by kernel_rfl) (by kernel_rfl) (by kernel_rfl)) laid (by kernel_rfl) (by kernel_rfl) Try.underlying4 rfl ?_
  intro W base args ds ps hval0 hA0 hlt
  have hval : ∀ (j : Nat) t v, Try.f3.params[j]? = some t → args[j]? = some v → Value.okWide Try.prog W .any base t v := hval0
  have hA : DataW.TrodAll enc Try.prog W 0 (fun _ => true) true Try.f3.params.toList args.toList ds ps := hA0
  clear hA0 hval0
  rw [Try.params3] at hA hval
  obtain ⟨v0, vs0, d0, ds0, p0, q0, hargs, rfl, rfl, h0, r0⟩ := trodAll_cons hA
  obtain ⟨v1, vs1, d1, ds1, p1, q1, rfl, rfl, rfl, h1, r1⟩ := trodAll_cons r0
  obtain ⟨v2, vs2, d2, ds2, p2, q2, rfl, rfl, rfl, h2, r2⟩ := trodAll_cons r1
  obtain ⟨rfl, rfl, rfl⟩ := trodAll_nil r2
  obtain rfl : args = #[v0, v1, v2] := by cases args; simp_all
  obtain ⟨cs0, rfl, sz0, ok0⟩ := open_flat (ts := [22, 22]) (Or.inl ⟨_, Try.underlying24⟩) (by kernel_rfl) (by kernel_rfl) (hval 0 24 v0 rfl rfl)
  obtain ⟨c0_0, c0_1, rfl⟩ := size2 sz0
  obtain ⟨a0_0, rfl, w0_0⟩ := cell_int Try.underlying22 (ok0 0 _ _ rfl rfl)
  obtain ⟨a0_1, rfl, w0_1⟩ := cell_int Try.underlying22 (ok0 1 _ _ rfl rfl)
  obtain ⟨a1, rfl, rfl, rfl, w1⟩ := open_int Try.underlying22 (hval 1 22 v1 rfl rfl) h1
  obtain ⟨A2, n2, cap2, V2, rfl, le2, mx2, rd2, lf2⟩ := open_slice_spots (m := 3) (d := 20) (l := [(0, 3), (1, 22), (2, 22)]) Try.underlying25 (by kernel_rfl) (by decide) (by kernel_rfl) (hval 2 25 v2 rfl rfl) h2
  have f2_0 := fun j hj => leaf_int Try.underlying3 (lf2 0 3 (by simp) j hj)
  have f2_1 := fun j hj => leaf_int Try.underlying22 (lf2 1 22 (by simp) j hj)
  have f2_2 := fun j hj => leaf_int Try.underlying22 (lf2 2 22 (by simp) j hj)
  refine ⟨⟨rfl, rfl, rfl⟩, ?_⟩
  exact walk a0_0 a0_1 a1 A2 n2 cap2 V2 W (bounds_u64 w1) (by omega) rd2 (ints f2_0) f2_1 f2_2

theorem over : Rows.sharePlaysRow.holds Try.pinned (OpenSpec.ofChange Rows.sharePlaysSpec) :=
  OpenClaim.holds_of_wide 3 Try.f3 rfl rfl rfl rfl rfl rfl rfl ⟨rfl, rfl, rfl, rfl, rfl⟩ rfl rfl rfl rfl rfl (by kernel_rfl) Try.func3 (by kernel_rfl)
    (of_decide_eq_true (by kernel_rfl)) (by unfold Func.isWrapper; first | (rw [if_pos (by decide +kernel)]; kernel_rfl) | (rw [if_neg (by decide +kernel)]; exact ⟨rfl, rfl⟩))
    (fun os started H enc _ => lifted os started H enc)
theorem proved : Rows.SharePlaysSaid := over
#print axioms proved
end Go.Proofs.Ytlmfcdfodlcjaaa.sharePlays
