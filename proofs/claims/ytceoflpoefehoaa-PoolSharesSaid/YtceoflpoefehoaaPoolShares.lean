/-
  For every two bytes PoolShares answers true, and changes nothing: a buffer that is shared is free when it was dropped once more often; while another one owns it nobody shares or drops it. No condition.
-/
import Derived.Test.YtceoflpoefehoaaRows
import Derived.Test.YtceoflpoefehoaaFr
import Derived.Test.YtceoflpoefehoaaPool1
import Derived.Test.YtceoflpoefehoaaOpen
namespace Go.Proofs.Ytceoflpoefehoaa.poolShares
open Go.ChangeShapes Go.WideShapes Go.ChangeAt Go.RowKit
set_option linter.unusedVariables false
theorem own : ownKnob Try.prog.godebug = none := by kernel_rfl
theorem laid : laidOutB Try.prog = true := by kernel_rfl
set_option maxRecDepth 100000
set_option maxHeartbeats 1000000
def sb (o r : Int) : Buf := ⟨1, o, r, List.replicate 4 0⟩
theorem sb_ok {o r : Int} (ho : 0 ≤ o ∧ o ≤ 3) (hr : 0 ≤ r ∧ r ≤ 100) : (sb o r).ok 1000 := ⟨by unfold sb; dsimp only; omega, ho, hr, by simp [sb]⟩
theorem walk (a t : Int) (w : World) (ba : 0 ≤ a ∧ a ≤ 255) (bt : 0 ≤ t ∧ t ≤ 255) :
    Calls Try.prog 6 #[.int .u8 a, .int .u8 t] w fun r w' => r = .returned (.bool true) ∧ Below w.heap.size w w' := by
  have q0 : 0 ≤ a % 99 := Int.emod_nonneg _ (by omega)
  have q1 : a % 99 < 99 := Int.emod_lt_of_pos _ (by omega)
  obtain ⟨k, hk⟩ : ∃ k : Nat, a % 99 = (k : Int) := ⟨(a % 99).toNat, by omega⟩
  have k98 : k ≤ 98 := by omega
  have t0 : 0 ≤ t % 2 := Int.emod_nonneg _ (by omega)
  have t1 : t % 2 < 2 := Int.emod_lt_of_pos _ (by omega)
  obtain ⟨u, hu⟩ : ∃ u : Int, t % 2 = u := ⟨_, rfl⟩
  have u0 : 0 ≤ u ∧ u ≤ 1 := by omega
  have HK := Lib.hid hk
  clear q0 q1 t0 t1 hk
  go_enter Try.func6, Try.ntmps6
  go_wp2_with fail
  refine (awake_o (St.begin w)).mono ?_
  rintro e w1 ⟨rfl, s1⟩
  have s2 : St w None _ [_] := s1.box 51 #[.int .i64 (4 : Nat), .int .i64 1]
  have NW := Lib.hid (new_1 4 (by omega) s2 (s2.blk 0 rfl) (k := 0))
  clear s1 s2
  go_wp2_with fail
  refine NW.out.mono ?_
  rintro e w2 ⟨p, rfl, s3'⟩
  have s3 : St w None w2 [_, PoolR p 1 (one (sb 0 0))] := s3'
  clear s3' NW
  go_wp2_with fail
  refine (get_1 s3 1 rfl (sb_ok (by omega) (by omega)) rfl (z := 4) (by simp [sb])).mono ?_
  rintro e w3 ⟨rfl, s4'⟩
  have s4 : St w None _ [_, PoolR p 1 (one (sb 1 1)), BlkR w3.heap.size 34 #[.int .i64 0, .int .u64 1]] := s4'.box 34 #[.int .i64 0, .int .u64 1]
  clear s3 s4'
  unfold sb
  go_wp2_with fail
  generalize w3.heap.size = g at *
  rw [HK.out]
  clear HK
  go_loopw [10] (fun i wr => ∃ m : Nat, m ≤ k ∧ i = .int .i64 m ∧ St w None wr [BlkR w1.heap.size 51 #[.int .i64 (4 : Nat), .int .i64 1], PoolR p 1 (one (sb 1 (m + 1))), BlkR g 34 #[.int .i64 0, .int .u64 1]]) (fun i _ => k - (intOf i).toNat)
  case atStart => exact ⟨0, by omega, rfl, s4⟩
  case round =>
    clear s4
    obtain ⟨m, hm, rfl, sr⟩ := hrel
    obtain ⟨c0, c1⟩ := (sr.blk 2 rfl).two
    by_cases hlt : m < k
    · have SH := Lib.hid (share_1 (b' := sb 1 ((m : Int) + 1 + 1)) sr 1 rfl (sb_ok (by omega) (by omega)) (by simp [sb]) (c := 0) (Or.inr (Or.inr ⟨rfl, by simp [sb]; omega, rfl, rfl⟩)))
      clear sr
      go_wp2_with fail
      refine SH.out.mono ?_
      rintro e w4 ⟨rfl, s4⟩
      go_wp2_with fail
      go_roundw
      case rel => exact ⟨m + 1, by omega, by go_num, by simpa using s4⟩
      case measure => simp [intOf]; omega
    · obtain rfl : m = k := by omega
      have OW := Lib.hid (owner_1 sr 1 rfl (sb_ok (by omega) (by omega)) (by simp [sb]))
      clear sr
      unfold sb at OW
      dsimp only at OW
      go_wp2_with fail
      refine OW.out.mono ?_
      rintro e w4 ⟨rfl, s5'⟩
      have s5 : St w None w4 [BlkR w1.heap.size 51 #[.int .i64 (4 : Nat), .int .i64 1], PoolR p 1 (one (sb 1 (m + 1))), BlkR g 34 #[.int .i64 0, .int .u64 1]] := s5'
      clear s5' c0 c1 OW
      obtain ⟨c0, c1⟩ := (s5.blk 2 rfl).two
      have G1 := Lib.hid (give_1 (b' := sb (2 + u) ((m : Int) + 1)) s5 1 rfl (sb_ok (by omega) (by omega)) (by simp [sb]) (a := 1) (z := 2 + u) (c := 0) (Or.inr (Or.inr ⟨⟨by unfold who; omega, by unfold who; omega, by omega⟩, rfl, rfl, rfl⟩)))
      clear s5
      go_wp2_with fail
      refine G1.out.mono ?_
      rintro e w5 ⟨rfl, s6'⟩
      have s6 : St w None w5 [BlkR w1.heap.size 51 #[.int .i64 (4 : Nat), .int .i64 1], PoolR p 1 (one (sb (2 + u) (m + 1))), BlkR g 34 #[.int .i64 0, .int .u64 1]] := s6'
      clear s6' c0 c1 G1
      obtain ⟨c0, c1⟩ := (s6.blk 2 rfl).two
      have H1 := Lib.hid (share_1 s6 1 rfl (sb_ok (by omega) (by omega)) (by simp [sb]; omega) (c := 8) (Or.inl ⟨by simp [sb]; omega, rfl, rfl⟩))
      clear s6
      go_wp2_with fail
      refine H1.out.mono ?_
      rintro e w6 ⟨rfl, s7'⟩
      have s7 : St w None w6 [BlkR w1.heap.size 51 #[.int .i64 (4 : Nat), .int .i64 1], PoolR p 1 (one (sb (2 + u) (m + 1))), BlkR g 34 #[.int .i64 0, .int .u64 1]] := s7'
      clear s7' c0 c1 H1
      obtain ⟨c0, c1⟩ := (s7.blk 2 rfl).two
      have D1 := Lib.hid (drop_1 s7 1 rfl (sb_ok (by omega) (by omega)) (by simp [sb]; omega) (c := 8) (Or.inl ⟨by simp [sb]; omega, rfl, rfl⟩))
      clear s7
      go_wp2_with fail
      refine D1.out.mono ?_
      rintro e w7 ⟨rfl, s8'⟩
      have s8 : St w None w7 [BlkR w1.heap.size 51 #[.int .i64 (4 : Nat), .int .i64 1], PoolR p 1 (one (sb (2 + u) (m + 1))), BlkR g 34 #[.int .i64 0, .int .u64 1]] := s8'
      clear s8' c0 c1 D1
      obtain ⟨c0, c1⟩ := (s8.blk 2 rfl).two
      have G2 := Lib.hid (give_1 (b' := sb 1 ((m : Int) + 1)) s8 1 rfl (sb_ok (by omega) (by omega)) (by simp [sb]; omega) (a := 2 + u) (z := 1) (c := 0) (Or.inr (Or.inr ⟨⟨by unfold who; omega, by unfold who; omega, by omega⟩, rfl, rfl, rfl⟩)))
      clear s8
      go_wp2_with fail
      refine G2.out.mono ?_
      rintro e w8 ⟨rfl, s9'⟩
      have s9 : St w None w8 [BlkR w1.heap.size 51 #[.int .i64 (4 : Nat), .int .i64 1], PoolR p 1 (one (sb 1 (m + 1))), BlkR g 34 #[.int .i64 0, .int .u64 1]] := s9'
      clear s9' c0 c1 G2
      go_wp2_with fail
      go_loopw [15] (fun i wr => ∃ j : Nat, j ≤ m ∧ i = .int .i64 j ∧ St w None wr [BlkR w1.heap.size 51 #[.int .i64 (4 : Nat), .int .i64 1], PoolR p 1 (one (sb 1 ((m : Int) + 1 - j))), BlkR g 34 #[.int .i64 0, .int .u64 1]]) (fun i _ => m - (intOf i).toNat)
      case atStart => exact ⟨0, by omega, rfl, by simpa using s9⟩
      case round =>
        clear s9
        obtain ⟨j, hj, rfl, sr⟩ := hrel
        obtain ⟨c0, c1⟩ := (sr.blk 2 rfl).two
        by_cases hl2 : j < m
        · have DR := Lib.hid (drop_1 (b' := sb 1 ((m : Int) + 1 - j - 1)) sr 1 rfl (sb_ok (by omega) (by omega)) (by simp [sb]) (c := 0) (Or.inr (Or.inl ⟨rfl, by simp [sb]; omega, rfl, rfl⟩)))
          clear sr
          go_wp2_with fail
          refine DR.out.mono ?_
          rintro e w10 ⟨rfl, s10'⟩
          have s10 : St w None w10 [BlkR w1.heap.size 51 #[.int .i64 (4 : Nat), .int .i64 1], PoolR p 1 (one (sb 1 ((m : Int) + 1 - j - 1))), BlkR g 34 #[.int .i64 0, .int .u64 1]] := s10'
          clear s10' DR
          have FR := Lib.hid (free_1 s10 1 rfl (sb_ok (by omega) (by omega)) 0 (by simp [sb]))
          clear s10
          go_wp2_with fail
          refine FR.out.mono ?_
          rintro e w11 ⟨rfl, s11⟩
          go_wp2_with fail
          go_roundw
          case rel => exact ⟨j + 1, by omega, by go_num, by rw [show (m : Int) + 1 - ((j + 1 : Nat) : Int) = (m : Int) + 1 - j - 1 by omega]; exact s11⟩
          case measure => simp [intOf]; omega
        · obtain rfl : j = m := by omega
          rw [show (j : Int) + 1 - (j : Int) = 1 by omega] at sr
          have DR := Lib.hid (drop_1 (b' := ⟨2, 0, 0, List.replicate 4 0⟩) sr 1 rfl (sb_ok (by omega) (by omega)) (by simp [sb]) (c := 0) (Or.inr (Or.inr ⟨rfl, rfl, rfl, rfl⟩)))
          clear sr
          go_wp2_with fail
          refine DR.out.mono ?_
          rintro e w10 ⟨rfl, s10'⟩
          have okz : (⟨2, 0, 0, List.replicate 4 0⟩ : Buf).ok 1000 := ⟨by dsimp only; omega, by dsimp only; omega, by dsimp only; omega, by simp⟩
          have s10 : St w None w10 [BlkR w1.heap.size 51 #[.int .i64 (4 : Nat), .int .i64 1], PoolR p 1 (one ⟨2, 0, 0, List.replicate 4 0⟩), BlkR g 34 #[.int .i64 0, .int .u64 1]] := s10'
          clear s10' DR c0 c1
          have FR := Lib.hid (free_1 s10 1 rfl okz 1 rfl)
          clear s10
          go_wp2_with fail
          refine FR.out.mono ?_
          rintro e w11 ⟨rfl, s11'⟩
          have s11 : St w None w11 [BlkR w1.heap.size 51 #[.int .i64 (4 : Nat), .int .i64 1], PoolR p 1 (one ⟨2, 0, 0, List.replicate 4 0⟩), BlkR g 34 #[.int .i64 0, .int .u64 1]] := s11'
          obtain ⟨c0, c1⟩ := (s11.blk 2 rfl).two
          have ST := Lib.hid (stale_1 s11 1 rfl okz rfl 1)
          clear s11 s11' FR
          go_wp2_with fail
          refine ST.out.mono ?_
          rintro e w12 ⟨rfl, s12⟩
          go_wp2_with fail
          go_ret
          exact ⟨rfl, s12.below⟩

set_option maxRecDepth 100000 in
theorem lifted (os : Os) (started : os.Started) (H : Type) (enc : TypeId × Value → H) :
    ReturnsInHanded {} Try.checked os 6 .any (Rows.poolSharesSpec.pre6 enc Try.prog Try.f6 Rows.poolSharesRow.domain false) (Rows.poolSharesSpec.post enc Try.prog Try.f6 false true false false) := by
  refine law_lifted (C := Try.checked) (tb := 4) own started (by kernel_rfl) Try.func6
    (ChangeSpec.witness6 (enc := enc) (C := Try.checked) false ⟨#[], #[.int .u8 0, .int .u8 0], []⟩ 8 (by kernel_rfl) (by kernel_rfl) (by kernel_rfl) (by kernel_rfl)) laid (by kernel_rfl) (by kernel_rfl) Try.underlying4 rfl ?_
  intro W base args ds ps hval0 hA0 hlt
  have hval : ∀ (j : Nat) t v, Try.f6.params[j]? = some t → args[j]? = some v → Value.okWide Try.prog W .any base t v := hval0
  have hA : DataW.TrodAll enc Try.prog W 0 (fun _ => true) true Try.f6.params.toList args.toList ds ps := hA0
  clear hA0 hval0
  rw [Try.params6] at hA hval
  obtain ⟨v0, vs0, d0, ds0, p0, q0, hargs, rfl, rfl, h0, r0⟩ := trodAll_cons hA
  obtain ⟨v1, vs1, d1, ds1, p1, q1, rfl, rfl, rfl, h1, r1⟩ := trodAll_cons r0
  obtain ⟨rfl, rfl, rfl⟩ := trodAll_nil r1
  obtain rfl : args = #[v0, v1] := by cases args; simp_all
  obtain ⟨a0, rfl, rfl, rfl, w0⟩ := open_int Try.underlying5 (hval 0 5 v0 rfl rfl) h0
  obtain ⟨a1, rfl, rfl, rfl, w1⟩ := open_int Try.underlying5 (hval 1 5 v1 rfl rfl) h1
  refine ⟨⟨rfl, rfl, rfl⟩, ?_⟩
  exact walk a0 a1 W (bounds_u8 w0) (bounds_u8 w1)

theorem over : Rows.poolSharesRow.holds Try.pinned (OpenSpec.ofChange Rows.poolSharesSpec) :=
  OpenClaim.holds_of_wide 6 Try.f6 rfl rfl rfl rfl rfl rfl rfl ⟨rfl, rfl, rfl, rfl, rfl⟩ rfl rfl rfl rfl rfl (by kernel_rfl) Try.func6 (by kernel_rfl)
    (of_decide_eq_true (by kernel_rfl)) (by unfold Func.isWrapper; first | (rw [if_pos (by decide +kernel)]; kernel_rfl) | (rw [if_neg (by decide +kernel)]; exact ⟨rfl, rfl⟩))
    (fun os started H enc _ => lifted os started H enc)
theorem proved : Rows.PoolSharesSaid := over
#print axioms proved
end Go.Proofs.Ytceoflpoefehoaa.poolShares
