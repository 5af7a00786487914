/-
  For every 8-bit number and every slice of bytes BucketApart answers true, and changes nothing: two buckets don't touch one another, and a token is there each time that as many ticks as its rate says went by. No condition.
-/
import Derived.Test.YtllkhelklgdjeaaRows
import Derived.Test.YtllkhelklgdjeaaFr
import Derived.Test.YtllkhelklgdjeaaBuckL
import Derived.LoopTactic
namespace Go.Proofs.Ytllkhelklgdjeaa.bucketApart
open Go.ChangeShapes Go.WideShapes Go.ChangeAt Go.RowKit
set_option linter.unusedVariables false
theorem own : ownKnob Try.prog.godebug = none := by kernel_rfl
theorem laid : laidOutB Try.prog = true := by kernel_rfl
theorem tk_far {E N now last : Int} (hE : 1 ≤ E) (h0 : 0 ≤ last) (h1 : last ≤ N) (hN : N ≤ now) (h2 : last + E ≤ now) (T : Int) (hT : 0 ≤ T) (hT1 : T ≤ 1) (hl : N / E = last / E ∨ T = 1) : tk 1 E N T now = 0 + 1 := by
  have m : last / E + 1 ≤ now / E := by
    have := Int.ediv_le_ediv (a := last + E) (b := now) (c := E) (by omega) h2
    rwa [Int.add_ediv_of_dvd_right (Int.dvd_refl E), Int.ediv_self (by omega)] at this
  have m2 : N / E ≤ now / E := Int.ediv_le_ediv (by omega) hN
  unfold tk
  rcases hl with hl | hl <;> split <;> omega
theorem tk_full {D E N now : Int} (hE : 1 ≤ E) (h : N ≤ now) : tk D E N D now = D := by
  have m2 : N / E ≤ now / E := Int.ediv_le_ediv (by omega) h
  unfold tk; split <;> omega
theorem tk_none {E N now T : Int} (hE : 1 ≤ E) (hN : N ≤ now) (hT : 0 ≤ T) (h : tk 1 E N T now = 0) : T = 0 ∧ now / E = N / E := by
  have m2 : N / E ≤ now / E := Int.ediv_le_ediv (by omega) hN
  unfold tk at h
  split at h <;> omega
/-- What is known of the bucket of one, since when the last token was taken. -/
def Since (E N T last : Int) : Prop := 0 ≤ last ∧ last ≤ N ∧ 0 ≤ T ∧ T ≤ 1 ∧ (N / E = last / E ∨ T = 1)
set_option maxRecDepth 100000
theorem walk (a : Int) (A : Option Addr) (n cap : Nat) (f : Nat → Int) (w : World) (ba : 0 ≤ a ∧ a ≤ 255) (hm : n ≤ maxLen) (rd : Rd w A n (fun i => .int .u8 (f i))) (hf : ∀ i, 0 ≤ f i ∧ f i ≤ 255) :
    Calls Try.prog 7 #[.int .u8 a, .slice A n cap] w fun r w' => r = .returned (.bool true) ∧ Below w.heap.size w w' := by
  unfold maxLen at hm
  have e0 : 0 ≤ a % 30 := Int.emod_nonneg _ (by omega)
  have e1 : a % 30 < 30 := Int.emod_lt_of_pos _ (by omega)
  go_enter Try.func7, Try.ntmps7
  go_wp2_with fail
  refine (awake_any _).mono ?_
  rintro r w1 ⟨rfl, hw⟩
  go_wp2_with fail
  refine (new_ok _ _ _ (by omega)).mono ?_
  rintro r w2 ⟨rfl, hb, hz, hn⟩
  go_wp2_with fail
  refine (new_ok _ _ _ (by omega)).mono ?_
  rintro r w3 ⟨rfl, hc, hz2, hn2⟩
  have hb3 := Blk.below hb hn2 (by omega)
  have hB : w.heap.size ≤ w1.heap.size := hw.size
  have hB2 : w.heap.size ≤ w2.heap.size := by omega
  have hw3 : Below w.heap.size w w3 := (hw.trans (hn.mono hB)).trans (hn2.mono hB2)
  by_cases hlen : 100 < n
  · go_wp2
    go_ret
    exact ⟨rfl, hw3⟩
  · have hl : decide (100 < (n : Int)) = false := decide_eq_false (by omega)
    generalize a % 30 = y at *
    go_wp2
    go_loopw [10, 11, 12] (fun nw ls i wr => ∃ k : Nat, ∃ now last N T M : Int, k ≤ n ∧ i = .int .i64 k ∧ nw = .int .u64 now ∧ ls = .int .u64 last ∧ 0 ≤ M ∧ M ≤ now ∧ N ≤ now ∧ now ≤ 60 * k ∧ Since (1 + y) N T last ∧ Bk wr w1.heap.size 1 (1 + y) N T ∧ Bk wr w2.heap.size 9 (1 + y) M 9 ∧ Below w.heap.size w wr) (fun _ _ i _ => n - (intOf i).toNat)
    case atStart => exact ⟨0, 0, 0, 0, 1, 0, by omega, rfl, rfl, rfl, by omega, by omega, by omega, by omega, ⟨by omega, by omega, by omega, by omega, Or.inl rfl⟩, hb3, hc, hw3⟩
    case round =>
      obtain ⟨k, now, last, N, T, M, hk, rfl, rfl, rfl, m0, m1, n1, n2, hs, hb, hc, hwr⟩ := hrel
      by_cases hlt : k < n
      · obtain ⟨ab, off, rfl, hab, hcell⟩ := rd (by omega)
        have hx : wr.cell? ⟨ab, off + k, none⟩ = some (.int .u8 (f k)) := (hwr.cell (p := ⟨ab, off + k, none⟩) hab).trans (hcell k hlt)
        have fk := hf k
        have g0 : 0 ≤ f k % 60 := Int.emod_nonneg _ (by omega)
        have g1 : f k % 60 < 60 := Int.emod_lt_of_pos _ (by omega)
        obtain ⟨s0, s1, s2, s3, s4⟩ := hs
        obtain ⟨nx, hnx⟩ : ∃ nx, now + f k % 60 = nx := ⟨_, rfl⟩
        have hne : w1.heap.size ≠ w2.heap.size := by omega
        have bd := tk_bd (D := 1) (T := T) (show 0 ≤ N by omega) (show N ≤ nx by omega) (show 1 ≤ 1 + y by omega) s2 s3
        have hfull := Lib.hid (tk_full (D := 9) (E := 1 + y) (N := M) (now := nx) (by omega) (by omega))
        clear hcell
        go_wp2_with fail
        refine (has_g _ 9 (1 + y) M 9 nx 9 _ hc ⟨by omega, by omega, by omega, by omega, by omega, by omega, by omega⟩ (by omega) (by omega) hfull.out).mono ?_
        rintro r w4 ⟨rfl, hc4, ho4⟩
        have hb4 := ho4.blk hb hne
        have hw4 := below_only hwr ho4 hB2 (Nat.le_refl _)
        by_cases ht : tk 1 (1 + y) N T nx = 0
        · obtain ⟨z1, z2⟩ := tk_none (by omega) (by omega) s2 ht
          have hfar : nx < last + (1 + y) := by
            rcases Int.lt_or_le nx (last + (1 + y)) with h | h
            · exact h
            · have := tk_far (E := 1 + y) (N := N) (now := nx) (last := last) (by omega) s0 s1 (by omega) h T s2 s3 s4; omega
          have hd : decide (last + (1 + y) ≤ nx) = false := decide_eq_false (by omega)
          have hs4 : N / (1 + y) = last / (1 + y) := by rcases s4 with h | h <;> omega
          have HT := Lib.hid ht
          have HS := Lib.hid (show Since (1 + y) nx 0 last from ⟨s0, by omega, by omega, by omega, Or.inl (by omega)⟩)
          clear hs4 z2 ht s4 bd hx
          go_wp2_with fail
          refine (take_no _ 1 (1 + y) N T nx _ hb4 ⟨by omega, by omega, by omega, by omega, by omega, by omega, by omega⟩ (by omega) (by omega) HT.out).mono ?_
          rintro r w5 ⟨rfl, hb5, ho5⟩
          have hc5 := ho5.blk hc4 (Ne.symm hne)
          clear z1
          go_wp2
          go_roundw
          case rel => exact ⟨k + 1, nx, last, nx, 0, nx, by omega, by go_num, rfl, rfl, by omega, by omega, by omega, by omega, HS.out, hb5, hc5, below_only hw4 ho5 hB (Nat.le_refl _)⟩
          case measure => simp [intOf]; omega
        · have HT := Lib.hid (show tk 1 (1 + y) N T nx = 0 + 1 by omega)
          clear ht bd s4 hx
          go_wp2_with fail
          refine (take_y _ 1 (1 + y) N T nx 0 _ hb4 ⟨by omega, by omega, by omega, by omega, by omega, by omega, by omega⟩ (by omega) (by omega) HT.out (by omega)).mono ?_
          rintro r w5 ⟨rfl, hb5, ho5⟩
          have hc5 := ho5.blk hc4 (Ne.symm hne)
          go_wp2
          go_roundw
          case rel => exact ⟨k + 1, nx, nx, nx, 0, nx, by omega, by go_num, rfl, rfl, by omega, by omega, by omega, by omega, ⟨by omega, by omega, by omega, by omega, Or.inl rfl⟩, hb5, hc5, below_only hw4 ho5 hB (Nat.le_refl _)⟩
          case measure => simp [intOf]; omega
      · go_wp2
        go_ret
        exact ⟨rfl, hwr⟩

set_option maxRecDepth 100000 in
theorem lifted (os : Os) (started : os.Started) (H : Type) (enc : TypeId × Value → H) :
    ReturnsInHanded {} Try.checked os 7 .any (Rows.bucketApartSpec.pre6 enc Try.prog Try.f7 Rows.bucketApartRow.domain false) (Rows.bucketApartSpec.post enc Try.prog Try.f7 false true false false) := by
  refine law_lifted (C := Try.checked) (tb := 4) own started (by kernel_rfl) Try.func7
    (ChangeSpec.witness6 (enc := enc) (C := Try.checked) false ⟨#[], #[.int .u8 0, .slice none 0 0], []⟩ 8 (by kernel_rfl) (by kernel_rfl) (by kernel_rfl) (by kernel_rfl)) laid (by kernel_rfl) (by kernel_rfl) Try.underlying4 rfl ?_
  intro W base args ds ps hval0 hA0 hlt
  have hval : ∀ (j : Nat) t v, Try.f7.params[j]? = some t → args[j]? = some v → Value.okWide Try.prog W .any base t v := hval0
  have hA : DataW.TrodAll enc Try.prog W 0 (fun _ => true) true Try.f7.params.toList args.toList ds ps := hA0
  clear hA0 hval0
  rw [Try.params7] at hA hval
  obtain ⟨v0, vs0, d0, ds0, p0, q0, hargs, rfl, rfl, h0, r0⟩ := trodAll_cons hA
  obtain ⟨v1, vs1, d1, ds1, p1, q1, rfl, rfl, rfl, h1, r1⟩ := trodAll_cons r0
  obtain ⟨rfl, rfl, rfl⟩ := trodAll_nil r1
  obtain rfl : args = #[v0, v1] := by cases args; simp_all
  obtain ⟨a0, rfl, rfl, rfl, w0⟩ := open_int Try.underlying5 (hval 0 5 v0 rfl rfl) h0
  obtain ⟨A1, n1, cap1, f1, rfl, le1, mx1, wf1, rd1⟩ := open_slice_ints Try.underlying22 Try.underlying5 (by kernel_rfl) (hval 1 22 v1 rfl rfl) h1
  refine ⟨⟨rfl, rfl, rfl⟩, ?_⟩
  have b0 := bounds_u8 w0
  exact walk a0 A1 n1 cap1 f1 W b0 (by omega) rd1 (fun i => bounds_u8 (wf1 i))

theorem over : Rows.bucketApartRow.holds Try.pinned (OpenSpec.ofChange Rows.bucketApartSpec) :=
  OpenClaim.holds_of_wide 7 Try.f7 rfl rfl rfl rfl rfl rfl rfl ⟨rfl, rfl, rfl, rfl, rfl⟩ rfl rfl rfl rfl rfl (by kernel_rfl) Try.func7 (by kernel_rfl)
    (of_decide_eq_true (by kernel_rfl)) (by unfold Func.isWrapper; first | (rw [if_pos (by decide +kernel)]; kernel_rfl) | (rw [if_neg (by decide +kernel)]; exact ⟨rfl, rfl⟩))
    (fun os started H enc _ => lifted os started H enc)
theorem proved : Rows.BucketApartSaid := over
#print axioms proved
end Go.Proofs.Ytllkhelklgdjeaa.bucketApart
