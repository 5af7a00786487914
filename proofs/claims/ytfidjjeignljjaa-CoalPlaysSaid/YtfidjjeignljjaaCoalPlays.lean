/-
  For every rule and every script CoalPlays answers true, and changes nothing: how many are fired, how many are there, and when it is due, is what the document says. No condition.
-/
import Derived.Test.YtfidjjeignljjaaRows
import Derived.Test.YtfidjjeignljjaaFr
import Derived.Test.YtfidjjeignljjaaCoalR
import Derived.Test.YtfidjjeignljjaaRd
import Derived.Test.YtfidjjeignljjaaOpen
import Derived.LoopTactic
namespace Go.Proofs.Ytfidjjeignljjaa.coalPlays
open Go.ChangeShapes Go.WideShapes Go.ChangeAt Go.RowKit
set_option linter.unusedVariables false
theorem own : ownKnob Try.prog.godebug = none := by kernel_rfl
theorem laid : laidOutB Try.prog = true := by kernel_rfl
set_option maxRecDepth 100000
set_option maxHeartbeats 1000000
theorem rdue_c {r : Nat} {C H N v : Int} {ok : Bool} {ws : List Int} (ho : WOK C H N ws) (hR : DueR H ws v ok) : ∀ w S, RefR r C H N ws w S →
    Calls Try.prog 16 #[.pointer (some ⟨r, 0, none⟩)] w fun e w' => e = .returned (.tuple #[.int .u64 v, .bool ok]) ∧ ∃ S', RefR r C H N ws w' S' ∧ Did S S' w w' := by
  rintro w S ⟨A, cap, hs⟩
  exact (ref_due (L := []) (St.start hs) ho hR).mono fun e w' ⟨he, hb⟩ => ⟨he, ((St.start hs).stay hb).fin fun S' h => ⟨A, cap, h⟩⟩
theorem walk (C H : Int) (A : Option Addr) (q cap : Nat) (V : Nat → Nat → Value) (w : World) (bC : -9223372036854775808 ≤ C ∧ C ≤ 9223372036854775807) (bH : 0 ≤ H ∧ H ≤ 18446744073709551615) (hm : q ≤ maxLen) (rd : RdM w A q 2 V) (f0 : ∀ j, j < q → ∃ z, V j 0 = .bool z) (f1 : ∀ j, j < q → ∃ z, V j 1 = .int .u64 z ∧ (Lit.int .u64 z).wf = true) :
    Calls Try.prog 3 #[.int .i64 C, .int .u64 H, .slice A q cap] w fun r w' => r = .returned (.bool true) ∧ Below w.heap.size w w' := by
  unfold maxLen at hm
  by_cases h : 1 ≤ C ∧ C ≤ 1000 ∧ 0 ≤ H ∧ H ≤ 1099511627776
  · go_enter Try.func3, Try.ntmps3
    go_wp2_with fail
    refine (looks (awake_any _) (St.begin w)).mono ?_
    rintro r w1 ⟨rfl, s1⟩
    go_wp2_with fail
    refine (gat_new s1 h).mono ?_
    rintro r w2 ⟨g, rfl, s2⟩
    go_wp2_with fail
    refine (rmay_yes C H _ h).mono ?_
    rintro r w3 ⟨rfl, rfl⟩
    have s3 : St w None _ [_, _] := ref_make s2 C H
    have hW0 : WOK C H 0 [] := ⟨h, by omega, by simp; omega, fun k hk => by simp at hk⟩
    clear s1 s2
    go_wp2_with fail
    generalize w2.heap.size = r at *
    go_loopw [10, 11] (fun nw i wr => ∃ (k : Nat) (now N : Int) (ws : List Int), k ≤ q ∧ k ≤ 150 ∧ i = .int .i64 k ∧ nw = .int .u64 now ∧ 0 ≤ now ∧ WOK C H N ws ∧ St w None wr [GatR g C H N ws, RefR r C H N ws]) (fun _ i _ => q - (intOf i).toNat)
    case atStart => exact ⟨0, 0, 0, [], by omega, by omega, rfl, rfl, by omega, hW0, s3⟩
    case round =>
      clear s3 hW0
      obtain ⟨k, now, N, ws, hk, hk2, rfl, rfl, hnow, hw, sr⟩ := hrel
      by_cases hlt : k < q
      · by_cases hlt2 : k < 150
        · obtain ⟨y, hy⟩ := f0 k hlt
          obtain ⟨z, hz, wz⟩ := f1 k hlt
          have bz := bounds_u64 wz
          obtain ⟨ib, off, rfl, e0, e1⟩ := rd.at2 sr.below hlt
          rw [hy] at e0; rw [hz] at e1
          obtain ⟨x, hx⟩ : ∃ x, IntKind.u64.wrap (now + z) = x := ⟨_, rfl⟩
          have bx : 0 ≤ x := by rw [← hx]; unfold IntKind.wrap; simp [IntKind.signed, IntKind.bits]; omega
          clear hy hz wz
          cases y with
          | true =>
            obtain ⟨n, f, N', ws', hR⟩ := raiseR_ex C H N ws x
            have hw2 := hw.raise bx hR
            have HR := Lib.hid hR
            have HW := Lib.hid hw
            clear hR hw
            go_wp2_with fail
            refine (gat_raise sr 0 rfl HW.out bx HR.out).mono ?_
            rintro e w6 ⟨rfl, s6'⟩
            have s6 : St w None w6 [_, RefR r C H N ws] := s6'
            clear s6' e0 e1 sr
            go_wp2_with fail
            refine (St.call (ref_raise HW.out bx HR.out) (RefR.ok _ _ _ _ _) s6 1 rfl).mono ?_
            rintro e w7 ⟨rfl, s7'⟩
            have s7 : St w None w7 [_, RefR r C H N' ws'] := s7'
            clear s7' s6
            have HW2 := hw2
            clear hw2
            obtain ⟨v, ok, hD⟩ := dueR_ex H ws'
            have HD := Lib.hid hD
            have HWW := Lib.hid HW2
            have bN := HW2.n
            have blen := HW2.len
            have bC2 := HW2.c
            clear hD HW2
            go_wp2_with fail
            refine (gat_due s7 0 rfl HWW.out HD.out).mono ?_
            rintro e w8 ⟨rfl, s8'⟩
            have s8 : St w None w8 [_, RefR r C H N' ws'] := s8'
            clear s8' s7
            go_wp2_with fail
            refine (St.call (R := RefR r C H N' ws') (R' := RefR r C H N' ws') (Post := fun e => e = .returned (.tuple #[.int .u64 v, .bool ok])) (rdue_c HWW.out HD.out) (RefR.ok _ _ _ _ _) s8 1 rfl).mono ?_
            rintro e w9 ⟨rfl, s9'⟩
            have s9 : St w None w9 [_, RefR r C H N' ws'] := s9'
            clear s9' s8
            obtain ⟨B, capB, r2, r3⟩ := ref_cells s9 1 rfl
            have GH := Lib.hid (fun k => gat_has (s9.drewN k) 0 rfl)
            have S9 := Lib.hid s9
            clear s9
            generalize ws'.length = len at *
            go_wp2_with fail
            go_quiet ((go_at_call 17; first | exact q_left (GH.out _) | exact q_add (GH.out _)))
            by_cases hx2 : 4611686018427387904 ≤ x
            · have d9 : decide (4611686018427387904 ≤ x) = true := decide_eq_true hx2
              go_wp2
              go_roundw
              case rel => exact ⟨k + 1, N', N', ws', by omega, by omega, by go_num, rfl, by omega, HWW.out, by first | exact S9.out.drewN _ | exact S9.out⟩
              case measure => simp [intOf]; omega
            · have d9 : decide (4611686018427387904 ≤ x) = false := decide_eq_false hx2
              go_wp2
              go_roundw
              case rel => exact ⟨k + 1, x, N', ws', by omega, by omega, by go_num, rfl, by omega, HWW.out, by first | exact S9.out.drewN _ | exact S9.out⟩
              case measure => simp [intOf]; omega
          | false =>
            obtain ⟨n, f, N', ws', hR⟩ := goR_ex H N ws x
            have hw2 := hw.go bx hR
            have HR := Lib.hid hR
            have HW := Lib.hid hw
            clear hR hw
            go_wp2_with fail
            refine (gat_go sr 0 rfl HW.out HR.out).mono ?_
            rintro e w6 ⟨rfl, s6'⟩
            have s6 : St w None w6 [_, RefR r C H N ws] := s6'
            clear s6' e0 e1 sr
            go_wp2_with fail
            refine (St.call (ref_go HW.out bx HR.out) (RefR.ok _ _ _ _ _) s6 1 rfl).mono ?_
            rintro e w7 ⟨rfl, s7'⟩
            have s7 : St w None w7 [_, RefR r C H N' ws'] := s7'
            clear s7' s6
            have HW2 := hw2
            clear hw2
            obtain ⟨v, ok, hD⟩ := dueR_ex H ws'
            have HD := Lib.hid hD
            have HWW := Lib.hid HW2
            have bN := HW2.n
            have blen := HW2.len
            have bC2 := HW2.c
            clear hD HW2
            go_wp2_with fail
            refine (gat_due s7 0 rfl HWW.out HD.out).mono ?_
            rintro e w8 ⟨rfl, s8'⟩
            have s8 : St w None w8 [_, RefR r C H N' ws'] := s8'
            clear s8' s7
            go_wp2_with fail
            refine (St.call (R := RefR r C H N' ws') (R' := RefR r C H N' ws') (Post := fun e => e = .returned (.tuple #[.int .u64 v, .bool ok])) (rdue_c HWW.out HD.out) (RefR.ok _ _ _ _ _) s8 1 rfl).mono ?_
            rintro e w9 ⟨rfl, s9'⟩
            have s9 : St w None w9 [_, RefR r C H N' ws'] := s9'
            clear s9' s8
            obtain ⟨B, capB, r2, r3⟩ := ref_cells s9 1 rfl
            have GH := Lib.hid (fun k => gat_has (s9.drewN k) 0 rfl)
            have S9 := Lib.hid s9
            clear s9
            generalize ws'.length = len at *
            go_wp2_with fail
            go_quiet ((go_at_call 17; first | exact q_left (GH.out _) | exact q_add (GH.out _)))
            by_cases hx2 : 4611686018427387904 ≤ x
            · have d9 : decide (4611686018427387904 ≤ x) = true := decide_eq_true hx2
              go_wp2
              go_roundw
              case rel => exact ⟨k + 1, N', N', ws', by omega, by omega, by go_num, rfl, by omega, HWW.out, by first | exact S9.out.drewN _ | exact S9.out⟩
              case measure => simp [intOf]; omega
            · have d9 : decide (4611686018427387904 ≤ x) = false := decide_eq_false hx2
              go_wp2
              go_roundw
              case rel => exact ⟨k + 1, x, N', ws', by omega, by omega, by go_num, rfl, by omega, HWW.out, by first | exact S9.out.drewN _ | exact S9.out⟩
              case measure => simp [intOf]; omega
        · go_wp2
          go_ret
          exact ⟨rfl, sr.below⟩
      · go_wp2
        go_ret
        exact ⟨rfl, sr.below⟩
  · go_enter Try.func3, Try.ntmps3
    go_wp2_with fail
    refine (looks (awake_any _) (St.begin w)).mono ?_
    rintro r w1 ⟨rfl, s1⟩
    go_wp2_with fail
    refine (new_no C H _ bH.1 h).mono ?_
    rintro r w2 ⟨rfl, rfl⟩
    go_wp2_with fail
    refine (rmay_no C H _ bH.1 h).mono ?_
    rintro r w3 ⟨rfl, rfl⟩
    go_wp2
    go_ret
    exact ⟨rfl, s1.below⟩

set_option maxRecDepth 100000 in
theorem lifted (os : Os) (started : os.Started) (H : Type) (enc : TypeId × Value → H) :
    ReturnsInHanded {} Try.checked os 3 .any (Rows.coalPlaysSpec.pre6 enc Try.prog Try.f3 Rows.coalPlaysRow.domain false) (Rows.coalPlaysSpec.post enc Try.prog Try.f3 false true false false) := by
  refine law_lifted (C := Try.checked) (tb := 4) own started (by kernel_rfl) Try.func3
    (ChangeSpec.witness6 (enc := enc) (C := Try.checked) false ⟨#[], #[.int .i64 0, .int .u64 0, .slice none 0 0], []⟩ 8 (by kernel_rfl) (by kernel_rfl) (by kernel_rfl) (by kernel_rfl)) laid (by kernel_rfl) (by kernel_rfl) Try.underlying4 rfl ?_
  intro W base args ds ps hval0 hA0 hlt
  have hval : ∀ (j : Nat) t v, Try.f3.params[j]? = some t → args[j]? = some v → Value.okWide Try.prog W .any base t v := hval0
  have hA : DataW.TrodAll enc Try.prog W 0 (fun _ => true) true Try.f3.params.toList args.toList ds ps := hA0
  clear hA0 hval0
  rw [Try.params3] at hA hval
  obtain ⟨v0, vs0, d0, ds0, p0, q0, hargs, rfl, rfl, h0, r0⟩ := trodAll_cons hA
  obtain ⟨v1, vs1, d1, ds1, p1, q1, rfl, rfl, rfl, h1, r1⟩ := trodAll_cons r0
  obtain ⟨v2, vs2, d2, ds2, p2, q2, rfl, rfl, rfl, h2, r2⟩ := trodAll_cons r1
  obtain ⟨rfl, rfl, rfl⟩ := trodAll_nil r2
  obtain rfl : args = #[v0, v1, v2] := by cases args; simp_all
  obtain ⟨a0, rfl, rfl, rfl, w0⟩ := open_int Try.underlying3 (hval 0 3 v0 rfl rfl) h0
  obtain ⟨a1, rfl, rfl, rfl, w1⟩ := open_int Try.underlying22 (hval 1 22 v1 rfl rfl) h1
  obtain ⟨A2, n2, cap2, V2, rfl, le2, mx2, rd2, lf2⟩ := open_slice_spots (m := 2) (d := 20) (l := [(0, 4), (1, 22)]) Try.underlying23 (by kernel_rfl) (by decide) (by kernel_rfl) (hval 2 23 v2 rfl rfl) h2
  have f2_0 := fun j hj => leaf_bool Try.underlying4 (lf2 0 4 (by simp) j hj)
  have f2_1 := fun j hj => leaf_int Try.underlying22 (lf2 1 22 (by simp) j hj)
  refine ⟨⟨rfl, rfl, rfl⟩, ?_⟩
  exact walk a0 a1 A2 n2 cap2 V2 W (bounds_i64 w0) (bounds_u64 w1) (by omega) rd2 f2_0 f2_1

theorem over : Rows.coalPlaysRow.holds Try.pinned (OpenSpec.ofChange Rows.coalPlaysSpec) :=
  OpenClaim.holds_of_wide 3 Try.f3 rfl rfl rfl rfl rfl rfl rfl ⟨rfl, rfl, rfl, rfl, rfl⟩ rfl rfl rfl rfl rfl (by kernel_rfl) Try.func3 (by kernel_rfl)
    (of_decide_eq_true (by kernel_rfl)) (by unfold Func.isWrapper; first | (rw [if_pos (by decide +kernel)]; kernel_rfl) | (rw [if_neg (by decide +kernel)]; exact ⟨rfl, rfl⟩))
    (fun os started H enc _ => lifted os started H enc)
theorem proved : Rows.CoalPlaysSaid := over
#print axioms proved
end Go.Proofs.Ytfidjjeignljjaa.coalPlays
