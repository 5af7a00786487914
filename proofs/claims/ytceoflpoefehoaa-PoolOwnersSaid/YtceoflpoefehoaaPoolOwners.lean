/-
  For every row of bytes PoolOwners answers true, and changes nothing: handed from owner to owner a buffer is written by the one that has it alone, and read by whoever asks; its bytes stay. No condition.
-/
import Derived.Test.YtceoflpoefehoaaRows
import Derived.Test.YtceoflpoefehoaaFr
import Derived.Test.YtceoflpoefehoaaPool1
import Derived.Test.YtceoflpoefehoaaOpen
namespace Go.Proofs.Ytceoflpoefehoaa.poolOwners
open Go.ChangeShapes Go.WideShapes Go.ChangeAt Go.RowKit
set_option linter.unusedVariables false
theorem own : ownKnob Try.prog.godebug = none := by kernel_rfl
theorem laid : laidOutB Try.prog = true := by kernel_rfl
set_option maxRecDepth 100000
set_option maxHeartbeats 1000000
def pb (o v : Int) : Buf := ⟨1, o, 1, [v]⟩
theorem pb_ok {o v : Int} (ho : who o) : (pb o v).ok 1000 := ⟨by unfold pb; dsimp only; omega, by unfold who at ho; unfold pb; dsimp only; omega, by unfold pb; dsimp only; omega, by simp [pb]⟩
theorem pb_ne {o v : Int} (ho : who o) : (pb o v).owner ≠ 0 := by unfold who at ho; show o ≠ 0; omega
theorem walk (A : Option Addr) (n cap : Nat) (f : Nat → Int) (w : World) (hm : n ≤ maxLen) (rd : Rd w A n (fun j => .int .u8 (f j))) (hf : ∀ j, 0 ≤ f j ∧ f j ≤ 255) :
    Calls Try.prog 7 #[.slice A n cap] w fun r w' => r = .returned (.bool true) ∧ Below w.heap.size w w' := by
  unfold maxLen at hm
  by_cases hn : 60 < n
  · have d1 : decide (60 < (n : Int)) = true := decide_eq_true (by omega)
    go_enter Try.func7, Try.ntmps7
    go_wp2_with fail
    refine (awake_o (St.begin w)).mono ?_
    rintro e w1 ⟨rfl, s1⟩
    go_wp2_with fail
    go_ret
    exact ⟨rfl, s1.below⟩
  · have d1 : decide (60 < (n : Int)) = false := decide_eq_false (by omega)
    go_enter Try.func7, Try.ntmps7
    go_wp2_with fail
    refine (awake_o (St.begin w)).mono ?_
    rintro e w1 ⟨rfl, s1⟩
    have s2 : St w None _ [_] := s1.box 51 #[.int .i64 (1 : Nat), .int .i64 1]
    have NW := Lib.hid (new_1 1 (by omega) s2 (s2.blk 0 rfl) (k := 0))
    clear s1 s2
    go_wp2_with fail
    refine NW.out.mono ?_
    rintro e w2 ⟨p, rfl, s3'⟩
    have s3 : St w None w2 [_, PoolR p 1 (one ⟨1, 0, 0, List.replicate 1 0⟩)] := s3'
    clear s3' NW
    go_wp2_with fail
    refine (get_1 s3 1 rfl ⟨by dsimp only; omega, by dsimp only; omega, by dsimp only; omega, by simp⟩ rfl (z := 1) (by simp)).mono ?_
    rintro e w3 ⟨rfl, s4'⟩
    have s4 : St w None _ [_, PoolR p 1 (one (pb 1 0)), BlkR w3.heap.size 34 #[.int .i64 0, .int .u64 1]] := s4'.box 34 #[.int .i64 0, .int .u64 1]
    clear s3 s4'
    go_wp2_with fail
    generalize w3.heap.size = g at *
    generalize w1.heap.size = cl at *
    go_loopw [7, 8, 9] (fun ow va i wr => ∃ (k : Nat) (o v : Int), k ≤ n ∧ who o ∧ i = .int .i64 k ∧ ow = .int .i64 o ∧ va = .int .u8 v ∧ St w None wr [BlkR cl 51 #[.int .i64 (1 : Nat), .int .i64 1], PoolR p 1 (one (pb o v)), BlkR g 34 #[.int .i64 0, .int .u64 1]]) (fun _ _ i _ => n - (intOf i).toNat)
    case atStart => exact ⟨0, 1, 0, by omega, by unfold who; omega, rfl, rfl, rfl, s4⟩
    case round =>
      clear s4
      obtain ⟨k, o, v, hk, ho, rfl, rfl, rfl, sr⟩ := hrel
      obtain ⟨c0, c1⟩ := (sr.blk 2 rfl).two
      by_cases hlt : k < n
      · obtain ⟨ab, ao, rfl, hab, hac⟩ := rd (by omega)
        have ck : wr.cell? ⟨ab, ao + k, none⟩ = some (.int .u8 (f k)) := (sr.cell (p := ⟨ab, ao + k, none⟩) hab id).trans (hac k hlt)
        have fk := hf k
        have k0 : (0 : Int) ≤ (k : Int) := by omega
        have k1 : (k : Int) < (n : Int) := by omega
        generalize f k = y at *
        have m0 : 0 ≤ y % 3 := Int.emod_nonneg _ (by omega)
        have m1 : y % 3 < 3 := Int.emod_lt_of_pos _ (by omega)
        obtain ⟨T, hT⟩ : ∃ T, 1 + y % 3 = T := ⟨_, rfl⟩
        have hwT : who T := by unfold who; omega
        obtain ⟨c, hc, hG⟩ : ∃ c : Int, ((c == 0) != (T != o)) = false ∧ GiveB o T (pb o v) c (pb T v) := by
          by_cases e : T = o
          · subst e
            exact ⟨1, by simp [bne], Or.inl ⟨fun h => h.2.2 rfl, rfl, rfl⟩⟩
          · exact ⟨0, by simp [bne, e], Or.inr (Or.inr ⟨⟨ho, hwT, Ne.symm e⟩, rfl, rfl, rfl⟩)⟩
        have hc2 : (!((c == 0) == (T != o))) = false := hc
        have G1 := Lib.hid (give_1 sr 1 rfl (pb_ok ho) (pb_ne ho) hG)
        have HW := Lib.hid hwT
        have HT := Lib.hid hT
        clear sr hac hG m0 m1 hT hwT ho
        go_wp2_with fail
        rw [HT.out]
        refine G1.out.mono ?_
        rintro e w5 ⟨rfl, s5'⟩
        have s5 : St w None w5 [BlkR cl 51 #[.int .i64 (1 : Nat), .int .i64 1], PoolR p 1 (one (pb T v)), BlkR g 34 #[.int .i64 0, .int .u64 1]] := s5'
        clear s5' G1 c0 c1 ck HT
        go_wp2_with fail
        clear hc hc2
        go_loopw [8, 12] (fun va b wr => ∃ (j : Nat) (v : Int), j ≤ 3 ∧ b = .int .i64 ((j : Int) + 1) ∧ va = .int .u8 v ∧ St w None wr [BlkR cl 51 #[.int .i64 (1 : Nat), .int .i64 1], PoolR p 1 (one (pb T v)), BlkR g 34 #[.int .i64 0, .int .u64 1]]) (fun _ b _ => 4 - (intOf b).toNat)
        case atStart => exact ⟨0, v, by omega, rfl, rfl, s5⟩
        case round =>
          clear s5
          obtain ⟨j, v, hj, rfl, rfl, sr⟩ := hrel
          obtain ⟨c0, c1⟩ := (sr.blk 2 rfl).two
          by_cases hl2 : j < 3
          · have dj : decide ((j : Int) + 1 ≤ 3) = true := decide_eq_true (by omega)
            obtain ⟨x, hx⟩ : ∃ x, (10 * (k : Int) + ((j : Int) + 1)) % 256 = x := ⟨_, rfl⟩
            have s6 : St w None _ [BlkR cl 51 #[.int .i64 (1 : Nat), .int .i64 1], PoolR p 1 (one (pb T v)), BlkR g 34 #[.int .i64 0, .int .u64 1]] := sr.alloc (.cells #[.int .u8 x] 5)
            by_cases e : (j : Int) + 1 = T
            · have e1 : ((j : Int) + 1 == T) = true := by simp [e]
              have WR := Lib.hid (write_1 (b' := pb T x) s6 1 rfl (pb_ok HW.out) (pb_ne HW.out) (by' := (j : Int) + 1) (at' := 0) (xs := [x]) (c := 0) (A := some ⟨wr.heap.size, 0, none⟩) (cp := 1) (Or.inr (Or.inr (Or.inr ⟨by rw [e]; exact HW.out, e.symm, by show fits 1 0 1; decide, rfl, rfl⟩))) (by simp [maxLen]) (rds_box wr 5 (.int .u8 x)))
              clear s6 sr e
              go_wp2_with fail
              refine WR.out.mono ?_
              rintro e w7 ⟨rfl, s7⟩
              go_wp2_with fail
              go_roundw
              case rel => exact ⟨j + 1, x, by omega, by go_num, by rw [hx], s7⟩
              case measure => simp [intOf]; omega
            · have e1 : ((j : Int) + 1 == T) = false := beq_eq_false_iff_ne.2 e
              have WR := Lib.hid (write_1 s6 1 rfl (pb_ok HW.out) (pb_ne HW.out) (by' := (j : Int) + 1) (at' := 0) (xs := [x]) (c := 8) (A := some ⟨wr.heap.size, 0, none⟩) (cp := 1) (Or.inr (Or.inl ⟨by unfold who; omega, Ne.symm e, rfl, rfl⟩)) (by simp [maxLen]) (rds_box wr 5 (.int .u8 x)))
              clear s6 sr e
              go_wp2_with fail
              refine WR.out.mono ?_
              rintro e w7 ⟨rfl, s7⟩
              go_wp2_with fail
              go_roundw
              case rel => exact ⟨j + 1, v, by omega, by go_num, rfl, s7⟩
              case measure => simp [intOf]; omega
          · obtain rfl : j = 3 := by omega
            have RR := Lib.hid (read_1 sr 1 rfl (pb_ok HW.out) (pb_ne HW.out) (at' := 0) (m := 1) (xs := [v]) (c := 0) (Or.inr ⟨by show fits 1 0 1; decide, rfl, rfl⟩))
            clear sr
            go_wp2_with fail
            refine RR.out.mono ?_
            rintro e w7 ⟨B, cp, rfl, s7'⟩
            have s7 : St w None w7 [BlkR cl 51 #[.int .i64 (1 : Nat), .int .i64 1], PoolR p 1 (one (pb T v)), BlkR g 34 #[.int .i64 0, .int .u64 1], LisR 5 1 (.slice B 1 cp) 1 (bys [v])] := s7'
            obtain ⟨A', cap', hv, -, -, -, hcell⟩ := s7.lis_cells 3 rfl
            injection hv with hv1 _ hv2
            subst hv1 hv2
            obtain ⟨b', o', rfl, hcc⟩ := hcell.resolve_left (by omega)
            have q0 : w7.cell? ⟨b', o', none⟩ = some (.int .u8 v) := hcc 0 _ rfl
            have S8 := Lib.hid (s7.take 3)
            clear s7 s7' RR hcell hcc c0 c1
            go_wp2_with fail
            go_roundw
            case rel => exact ⟨k + 1, T, v, by omega, HW.out, by go_num, rfl, rfl, S8.out⟩
            case measure => simp [intOf]; omega
      · go_wp2_with fail
        go_ret
        exact ⟨rfl, sr.below⟩

set_option maxRecDepth 100000 in
theorem lifted (os : Os) (started : os.Started) (H : Type) (enc : TypeId × Value → H) :
    ReturnsInHanded {} Try.checked os 7 .any (Rows.poolOwnersSpec.pre6 enc Try.prog Try.f7 Rows.poolOwnersRow.domain false) (Rows.poolOwnersSpec.post enc Try.prog Try.f7 false true false false) := by
  refine law_lifted (C := Try.checked) (tb := 4) own started (by kernel_rfl) Try.func7
    (ChangeSpec.witness6 (enc := enc) (C := Try.checked) false ⟨#[], #[.slice none 0 0], []⟩ 8 (by kernel_rfl) (by kernel_rfl) (by kernel_rfl) (by kernel_rfl)) laid (by kernel_rfl) (by kernel_rfl) Try.underlying4 rfl ?_
  intro W base args ds ps hval0 hA0 hlt
  have hval : ∀ (j : Nat) t v, Try.f7.params[j]? = some t → args[j]? = some v → Value.okWide Try.prog W .any base t v := hval0
  have hA : DataW.TrodAll enc Try.prog W 0 (fun _ => true) true Try.f7.params.toList args.toList ds ps := hA0
  clear hA0 hval0
  rw [Try.params7] at hA hval
  obtain ⟨v0, vs0, d0, ds0, p0, q0, hargs, rfl, rfl, h0, r0⟩ := trodAll_cons hA
  obtain ⟨rfl, rfl, rfl⟩ := trodAll_nil r0
  obtain rfl : args = #[v0] := by cases args; simp_all
  obtain ⟨A0, n0, cap0, f0, rfl, le0, mx0, wf0, rd0⟩ := open_slice_ints Try.underlying35 Try.underlying5 (by kernel_rfl) (hval 0 35 v0 rfl rfl) h0
  refine ⟨⟨rfl, rfl, rfl⟩, ?_⟩
  exact walk A0 n0 cap0 f0 W (by omega) rd0 (fun i => bounds_u8 (wf0 i))

theorem over : Rows.poolOwnersRow.holds Try.pinned (OpenSpec.ofChange Rows.poolOwnersSpec) :=
  OpenClaim.holds_of_wide 7 Try.f7 rfl rfl rfl rfl rfl rfl rfl ⟨rfl, rfl, rfl, rfl, rfl⟩ rfl rfl rfl rfl rfl (by kernel_rfl) Try.func7 (by kernel_rfl)
    (of_decide_eq_true (by kernel_rfl)) (by unfold Func.isWrapper; first | (rw [if_pos (by decide +kernel)]; kernel_rfl) | (rw [if_neg (by decide +kernel)]; exact ⟨rfl, rfl⟩))
    (fun os started H enc _ => lifted os started H enc)
theorem proved : Rows.PoolOwnersSaid := over
#print axioms proved
end Go.Proofs.Ytceoflpoefehoaa.poolOwners
