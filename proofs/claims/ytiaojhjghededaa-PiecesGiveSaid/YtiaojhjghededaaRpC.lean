/- Layer 7: the document's own pool: Get. -/
import Derived.Test.YtiaojhjghededaaRpB
namespace Go.Proofs.Ytiaojhjghededaa
open Go.RowKit
set_option linter.unusedVariables false
set_option maxRecDepth 100000
set_option maxHeartbeats 1600000
section
variable {w0 w : World} {S S0 : Nat → Prop} {N L : List Res} {r n : Nat} {st : Nat → Buf} {G : Int}
theorem updB3 (st : Nat → Buf) (k : Nat) (a b c : Buf) : updB (updB (updB st k a) k b) k c = updB st k c := by
  funext j
  by_cases e : j = k <;> simp [updB, e]
/-- A buffer that was got. -/
theorem rp_got {gb go ob oo fb fo bb bo gc oc fc bc : Nat} {X : Nat → Option Addr × Nat} (s : St w0 S0 w (RpL r ⟨some ⟨gb, go, none⟩, some ⟨ob, oo, none⟩, some ⟨fb, fo, none⟩, some ⟨bb, bo, none⟩, gc, oc, fc, bc, X⟩ n st ++ N)) {i : Nat} (hi : i < n) (hl : (st i).bs.length ≤ 65536) {q : Nat} (hq : w.heap.size = q) :
    ∃ X', St w0 S0 ((w.alloc (.cells (madeCells #[.int .u8 0] (st i).bs.length) 5)).setCell ⟨bb, bo + i, none⟩ (.slice (some ⟨q, 0, none⟩) (st i).bs.length (st i).bs.length)) (RpL r ⟨some ⟨gb, go, none⟩, some ⟨ob, oo, none⟩, some ⟨fb, fo, none⟩, some ⟨bb, bo, none⟩, gc, oc, fc, bc, X'⟩ n (updB st i { st i with bs := List.replicate (st i).bs.length 0 }) ++ N) := by
  subst hq
  have s1 := s.lis_new 5 1 (st i).bs.length (madeCells #[.int .u8 0] (st i).bs.length) (by simp [madeCells]) (by unfold maxLen; omega)
  rw [show (madeCells #[.int .u8 0] (st i).bs.length).toList = bys (List.replicate (st i).bs.length 0) from by
    apply List.ext_getElem?
    intro j
    by_cases hj : j < (st i).bs.length
    · simp [madeCells, bys, hj, Nat.mod_one]
    · rw [List.getElem?_eq_none (by simp [madeCells]; omega), List.getElem?_eq_none (by simp [bys]; omega)]] at s1
  have h := rp_setb (xs := List.replicate (st i).bs.length 0) (A := some ⟨w.heap.size, 0, none⟩) (c := (st i).bs.length) (by rw [List.length_replicate]; exact s1) hi
  rwa [List.length_replicate] at h
theorem RGet_c (ok : POK n st G) {z x g c : Int} {st' : Nat → Buf} (h : GetP n st z x g c st') : ∀ w S, RPR r n st w S →
    Calls Try.prog 22 #[.pointer (some ⟨r, 0, none⟩), .int .i64 z] w fun e w' => e = .returned (.tuple #[.agg #[.int .i64 x, .int .u64 g], .int .i64 c]) ∧ ∃ S', RPR r n st' w' S' ∧ Did S S' w w' := by
  intro w S hp
  have h1 := ok.n1
  have h8 := ok.n2
  obtain ⟨gb, go, ob, oo, fb, fo, bb, bo, gc, oc, fc, bc, X, s⟩ := rp_begin hp h1
  have s1 := s.box 40 #[.int .i64 0, .int .u64 0]
  rw [List.append_assoc] at s1
  obtain ⟨c0, c1, c2, c3⟩ := rp_box s1
  obtain ⟨n', rfl⟩ : ∃ n', n = n' + 1 := ⟨n - 1, by omega⟩
  unfold GetP at h
  rw [show n' + 1 - 1 = n' by omega] at h
  have hlen := (ok.b n' (by omega)).2.2.2
  obtain ⟨-, -, -, e3⟩ := rp_four s1 (i := n') (by omega)
  have wn : IntKind.i64.wrap (((n' + 1 : Nat) : Int) - 1) = (n' : Int) := by
    rw [IntWalk.i64_in _ ⟨by omega, by omega⟩]; omega
  have n0 : (0 : Int) ≤ (n' : Int) := by omega
  have n1 : (n' : Int) < ((n' + 1 : Nat) : Int) := by omega
  obtain ⟨b0, b1⟩ := (Blk.new w 40 #[.int .i64 0, .int .u64 0]).two
  have fb0 := (Blk.new w 40 #[.int .i64 0, .int .u64 0]).frozen 0
  have fb1 := (Blk.new w 40 #[.int .i64 0, .int .u64 0]).frozen 1
  have SD := Lib.hid (fun q => rp_bx_set (rp_bx_set (s1.drewN q) 0 rfl 0 (.int .i64 0)) 0 rfl 1 (.int .u64 0))
  have S1 := Lib.hid s1
  have mk := fun M (hM : M ≤ 65536) W => run_make_rowN (P := Try.prog) 23 5 (info_parts Try.infoU8).choose (.int .u8 0) Try.underlying23 (info_parts Try.infoU8).choose_spec.1 (info_parts Try.infoU8).choose_spec.2.1 rfl (info_parts Try.infoU8).choose_spec.2.2.1 .i64 .i64 M (by rw [(info_parts Try.infoU8).choose_spec.2.2.2]; omega) (by omega) W
  have MK := Lib.hid mk
  clear s1 s mk
  generalize hle : (st n').bs.length = le at *
  by_cases hz : 1 ≤ z ∧ z ≤ (le : Int)
  · have d1 : decide (z < 1) = false := decide_eq_false (by omega)
    have d2 : decide ((le : Int) < z) = false := decide_eq_false (by omega)
    go_enter Try.func22, Try.ntmps22
    go_wp2_with fail
    go_quiet (fail)
    go_wp2_with fail
    go_loopw [6] (fun i wr => ∃ k : Nat, k ≤ n' + 1 ∧ i = .int .i64 k ∧ (∀ j, j < k → ¬ fit st z j) ∧ St w S wr (RpL r ⟨some ⟨gb, go, none⟩, some ⟨ob, oo, none⟩, some ⟨fb, fo, none⟩, some ⟨bb, bo, none⟩, gc, oc, fc, bc, X⟩ (n' + 1) st ++ [BlkR w.heap.size 40 #[.int .i64 0, .int .u64 0]])) (fun i _ => (n' + 1) - (intOf i).toNat)
    case atStart => exact ⟨0, by omega, rfl, fun j hj => absurd hj (by omega), S1.out.drewN _⟩
    case round =>
      clear c0 c1 c2 c3 b0 b1 fb0 fb1 e3 S1
      obtain ⟨k, hk, rfl, hno, sr⟩ := hrel
      obtain ⟨c0, c1, c2, c3⟩ := rp_box sr
      have i0' : (0 : Int) ≤ (k : Int) := by omega
      by_cases hlt : k < n' + 1
      · obtain ⟨e0, e1, e2, e3⟩ := rp_four sr hlt
        obtain ⟨-, z1, z2, -⟩ := rp_frozen sr (oo + k)
        have hlk := (ok.b k hlt).2.2.2
        have i1' : (k : Int) < ((n' + 1 : Nat) : Int) := by omega
        by_cases ho : (st k).owner = 0
        · by_cases hf : z ≤ ((st k).bs.length : Nat)
          · obtain ⟨rfl, rfl, rfl, rfl⟩ : x = (k : Int) ∧ g = (st k).gen ∧ c = 0 ∧ st' = updB st k (got (st k)) := by
              rcases h with ⟨h, -⟩ | ⟨-, h, -⟩ | ⟨-, i, hi, hj, hfi, h⟩
              · exact absurd hz h
              · exact absurd ⟨ho, hf⟩ (h k hlt)
              · obtain rfl : i = k := by
                  rcases Nat.lt_trichotomy i k with hh | hh | hh
                  · exact absurd hfi (hno i hh)
                  · exact hh
                  · exact absurd ⟨ho, hf⟩ (hj k hh)
                exact h
            rw [ho] at e1
            have d3 : decide (z ≤ ((st k).bs.length : Int)) = true := decide_eq_true (by omega)
            have t1 := rp_seto sr hlt 1
            obtain ⟨-, -, e2', -⟩ := rp_four t1 hlt
            obtain ⟨c0', c1', c2', c3'⟩ := rp_box t1
            have t2 := rp_setf t1 hlt 1
            obtain ⟨g0, -, -, g3⟩ := rp_four t2 hlt
            obtain ⟨h0, -, -, h3⟩ := rp_box t2
            simp only [updB_self] at t2 g3 e2' g0
            obtain ⟨X', t3⟩ := rp_got t2 hlt (by rw [updB_self]; exact hlk) (q := wr.heap.size) (by simp [World.setCell])
            simp only [updB_self] at t3
            have mk := MK.out (st k).bs.length hlk
            have zf1 := z1
            obtain ⟨-, -, zf2, -⟩ := rp_frozen t1 (fo + k)
            obtain ⟨-, -, -, zf3⟩ := rp_frozen (t2.alloc (.cells (madeCells #[.int .u8 0] (st k).bs.length) 5)) (bo + k)
            have g3' := cell_alloc g3 (.cells (madeCells #[.int .u8 0] (st k).bs.length) 5)
            have h3' := cell_alloc h3 (.cells (madeCells #[.int .u8 0] (st k).bs.length) 5)
            obtain ⟨q0, -, -, -⟩ := rp_four t3 hlt
            obtain ⟨r0, -, -, -⟩ := rp_box t3
            simp only [updB_self] at q0
            have x0 := (rp_bx t3 0 rfl).frozen 0
            obtain ⟨y30, y31⟩ := (rp_bx t3 0 rfl).two
            have t4 := rp_bx_set t3 0 rfl 0 (.int .i64 k)
            have x1 := (rp_bx t4 0 rfl).frozen 1
            have y4 := (rp_bx t4 0 rfl).two
            have t5 := rp_bx_set t4 0 rfl 1 (.int .u64 (st k).gen)
            have y5 := (rp_bx t5 0 rfl).two
            rw [updB3] at t5
            have T5 := Lib.hid (t5.drew)
            clear t1 t2 t3 t4 t5 sr h hno z2 MK ho
            go_wp2_with fail
            go_region
            all_goals go_wp2_with fail
            all_goals refine bodyPost_ret (v := .tuple #[.agg #[.int .i64 k, .int .u64 (st k).gen], .int .i64 0]) ?_ rfl ⟨rfl, rp_end T5.out⟩
            all_goals simp [results, go_sem, y5.1, y5.2]
          · have d3 : decide (z ≤ ((st k).bs.length : Int)) = false := decide_eq_false (by omega)
            have HNO := Lib.hid (show ∀ j, j < k + 1 → ¬ fit st z j from fun j hj => by
              by_cases e : j = k
              · rw [e]; exact fun hh => hf hh.2
              · exact hno j (by omega))
            rw [ho] at e1
            have SR := Lib.hid sr
            clear sr h hno e0 e2 ho z1 z2 MK
            generalize (st k).bs.length = lk at *
            go_wp2_with fail
            go_roundw
            case rel => exact ⟨k + 1, by omega, by go_num, HNO.out, SR.out⟩
            case measure => simp [intOf]; omega
        · have z0 : ((st k).owner == 0) = false := beq_eq_false_iff_ne.2 ho
          have HNO := Lib.hid (show ∀ j, j < k + 1 → ¬ fit st z j from fun j hj => by
              by_cases e : j = k
              · rw [e]; exact fun hh => ho hh.1
              · exact hno j (by omega))
          have SR := Lib.hid sr
          clear sr h hno e0 e2 ho z1 z2 MK
          generalize (st k).owner = ow at *
          go_wp2_with fail
          go_roundw
          case rel => exact ⟨k + 1, by omega, by go_num, HNO.out, SR.out⟩
          case measure => simp [intOf]; omega
      · obtain rfl : k = n' + 1 := by omega
        obtain ⟨rfl, rfl, rfl, rfl⟩ : x = 0 ∧ g = 0 ∧ c = 5 ∧ st' = st := by
          rcases h with ⟨h, -⟩ | ⟨-, -, h⟩ | ⟨-, i, hi, hj, hfi, h⟩
          · exact absurd hz h
          · exact h
          · exact absurd hfi (hno i hi)
        have q0 := (rp_bx sr 0 rfl).two
        have z0 := (rp_bx sr 0 rfl).frozen 0
        have z1 := (rp_bx sr 0 rfl).frozen 1
        have s7 := rp_bx_set sr 0 rfl 0 (.int .i64 0)
        have q1 := (rp_bx s7 0 rfl).two
        have z2 := (rp_bx s7 0 rfl).frozen 1
        have s8 := rp_bx_set s7 0 rfl 1 (.int .u64 0)
        have q2 := (rp_bx s8 0 rfl).two
        have S8 := Lib.hid s8
        clear s7 s8 sr h hno MK
        go_wp2_with fail
        refine bodyPost_ret (v := .tuple #[.agg #[.int .i64 0, .int .u64 0], .int .i64 5]) ?_ rfl ⟨rfl, rp_end S8.out⟩
        simp [results, go_sem, q2.1, q2.2]
  · obtain ⟨rfl, rfl, rfl, rfl⟩ : x = 0 ∧ g = 0 ∧ c = 1 ∧ st' = st := by
      rcases h with ⟨-, h⟩ | ⟨h, -⟩ | ⟨h, -⟩
      · exact h
      · exact absurd h hz
      · exact absurd h hz
    by_cases hz1 : 1 ≤ z
    · have d1 : decide (z < 1) = false := decide_eq_false (by omega)
      have d2 : decide ((le : Int) < z) = true := decide_eq_true (by omega)
      clear h hle hz MK
      go_enter Try.func22, Try.ntmps22
      go_wp2_with fail
      go_quiet (fail)
      go_wp2_with fail
      refine bodyPost_ret (v := .tuple #[.agg #[.int .i64 0, .int .u64 0], .int .i64 1]) ?_ rfl ⟨rfl, rp_end (SD.out _)⟩
      simp [results, go_sem, b0, b1]
    · have d1 : decide (z < 1) = true := decide_eq_true (by omega)
      clear h hle hz MK
      go_enter Try.func22, Try.ntmps22
      go_wp2_with fail
      go_quiet (fail)
      go_wp2_with fail
      refine bodyPost_ret (v := .tuple #[.agg #[.int .i64 0, .int .u64 0], .int .i64 1]) ?_ rfl ⟨rfl, rp_end (SD.out _)⟩
      simp [results, go_sem, b0, b1]
theorem RGet_o (H : St w0 S0 w L) (i : Nat) (hi : L[i]? = some (RPR r n st)) (ok : POK n st G) {z : Int} {x g c : Int} {st' : Nat → Buf} (h : GetP n st z x g c st') :
    Calls Try.prog 22 #[.pointer (some ⟨r, 0, none⟩), .int .i64 z] w fun e w' => e = .returned (.tuple #[.agg #[.int .i64 x, .int .u64 g], .int .i64 c]) ∧ St w0 S0 w' (L.set i (RPR r n st')) :=
  H.call1 (RPR.ok _ _ _) i hi fun S hp => RGet_c ok h w S hp
end
end Go.Proofs.Ytiaojhjghededaa
