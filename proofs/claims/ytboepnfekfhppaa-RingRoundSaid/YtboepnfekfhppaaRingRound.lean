/-
  For every size and every number of rounds RingRound answers true, and changes nothing: gone round many times a ring holds as many as its size, and tells each number once. No condition.
-/
import Derived.Test.YtboepnfekfhppaaRows
import Derived.Test.YtboepnfekfhppaaFr
import Derived.Test.YtboepnfekfhppaaRingX
namespace Go.Proofs.Ytboepnfekfhppaa.ringRound
open Go.ChangeShapes Go.WideShapes Go.ChangeAt Go.RowKit
set_option linter.unusedVariables false
theorem own : ownKnob Try.prog.godebug = none := by kernel_rfl
theorem laid : laidOutB Try.prog = true := by kernel_rfl
set_option maxRecDepth 100000
set_option maxHeartbeats 4000000
def dY (y : Int) : Dsc := ⟨0, y, 0, 0, 0, 0, false, false, 0⟩
theorem dY_may {y : Int} (h : 0 ≤ y ∧ y < 60000) : (dY y).inR.may := by
  unfold Dsc.may Dsc.inR dY; dsimp only; refine ⟨?_, ?_, ?_, ?_, ?_, ?_, ?_, Or.inr rfl⟩ <;> omega
theorem dY_fits {y : Int} (h : 0 ≤ y ∧ y < 60000) : (dY y).fits := by unfold Dsc.fits dY; dsimp only; omega
/-- Of the K that were put from nx on, j were taken and finished. -/
structure Rd3 (n nx K pp tt rr j : Nat) (s : RSt) : Prop where
  put : s.put = pp
  taken : s.taken = tt
  reaped : s.reaped = rr
  req : ∀ m, nx + m < pp → (s.D (nx + m)).req = (((nx + m) % 60000 : Nat) : Int)
  yes : ∀ m, m < j → (s.D (nx + m)).dn = true ∧ (s.D (nx + m)).st = m
  no : ∀ m, j ≤ m → nx + m < pp → (s.D (nx + m)).dn = false
theorem okk {n : Nat} {s : RSt} (h0 : 1 ≤ n) (h1 : n ≤ 64) (hr : s.reaped ≤ s.taken) (ht : s.taken ≤ s.put) (hp : s.put ≤ s.reaped + n) (hm : s.put ≤ 1000000) : s.ok n := ⟨hr, ht, hp, hm, h0, h1⟩
def upS (s : RSt) (y : Int) : RSt := ⟨s.put + 1, s.taken, s.reaped, setD s.D s.put (dY y).inR⟩
theorem up_rd {n nx K put j : Nat} {s : RSt} (h : Rd3 n nx K put nx nx 0 s) (hp : put = nx + j) : Rd3 n nx K (put + 1) nx nx 0 (upS s (((nx + j) % 60000 : Nat) : Int)) := by
  obtain ⟨h1, h2, h3, h4, h5, h6⟩ := h
  refine ⟨by show s.put + 1 = put + 1; omega, h2, h3, fun m hm => ?_, fun m hm => absurd hm (by omega), fun m hm0 hm => ?_⟩
  · show (setD s.D s.put _ (nx + m)).req = _
    unfold setD
    by_cases e : nx + m = s.put
    · rw [if_pos e, show nx + m = nx + j by omega]; rfl
    · rw [if_neg e]; exact h4 m (by omega)
  · show (setD s.D s.put _ (nx + m)).dn = false
    unfold setD
    by_cases e : nx + m = s.put
    · rw [if_pos e]; rfl
    · rw [if_neg e]; exact h6 m hm0 (by omega)
def tkS (s : RSt) (k : Nat) (st : Int) : RSt := ⟨s.put, s.taken + 1, s.reaped, setD s.D k ((s.D k).fin st)⟩
theorem tk_rd {n nx K put j : Nat} {s : RSt} (h : Rd3 n nx K put (nx + j) nx j s) (hp : nx + j < put) : Rd3 n nx K put (nx + j + 1) nx (j + 1) (tkS s (nx + j) j) := by
  obtain ⟨h1, h2, h3, h4, h5, h6⟩ := h
  refine ⟨h1, by show s.taken + 1 = _; omega, h3, fun m hm => ?_, fun m hm => ?_, fun m hm0 hm => ?_⟩
  · show (setD s.D (nx + j) _ (nx + m)).req = _
    unfold setD
    by_cases e : nx + m = nx + j
    · rw [if_pos e]; obtain rfl : m = j := by omega
      exact h4 m hm
    · rw [if_neg e]; exact h4 m hm
  · show (setD s.D (nx + j) _ (nx + m)).dn = true ∧ (setD s.D (nx + j) _ (nx + m)).st = m
    unfold setD
    by_cases e : nx + m = nx + j
    · rw [if_pos e]; obtain rfl : m = j := by omega
      exact ⟨rfl, rfl⟩
    · rw [if_neg e]; exact h5 m (by omega)
  · show (setD s.D (nx + j) _ (nx + m)).dn = false
    unfold setD
    rw [if_neg (by omega)]; exact h6 m (by omega) hm
theorem walk (a b : Int) (w : World) (ba : 0 ≤ a ∧ a ≤ 255) (bb : 0 ≤ b ∧ b ≤ 255) :
    Calls Try.prog 6 #[.int .u8 a, .int .u8 b] w fun r w' => r = .returned (.bool true) ∧ Below w.heap.size w w' := by
  obtain ⟨n, hN⟩ : ∃ n : Nat, 1 + a % 64 = (n : Int) := ⟨(1 + a % 64).toNat, by omega⟩
  have h0 : 1 ≤ n := by omega
  have hn : n ≤ 64 := by omega
  obtain ⟨M, hM⟩ : ∃ M : Nat, b % 200 = (M : Int) := ⟨(b % 200).toNat, by omega⟩
  have hM2 : M < 200 := by omega
  have HN := Lib.hid hN
  have HM := Lib.hid hM
  clear hN hM
  go_enter Try.func6, Try.ntmps6
  go_wp2_with fail
  refine (awake_o (St.begin w)).mono ?_
  rintro r w1 ⟨rfl, s1⟩
  go_wp2_with fail
  rw [HN.out]
  refine (New_o s1 h0 hn).mono ?_
  rintro r w2 ⟨p, rfl, s2'⟩
  have s2 : St w None w2 [RingR p n RSt.new] := s2'
  have S2 := Lib.hid s2
  clear s1 s2 s2'
  go_wp2_with fail
  go_loopw [8, 9] (fun x8 i wr => ∃ (k nx : Nat) (s : RSt), k ≤ M ∧ i = .int .i64 k ∧ x8 = .int .i64 nx ∧ nx ≤ 64 * k ∧ s.put = nx ∧ s.taken = nx ∧ s.reaped = nx ∧ St w None wr [RingR p n s]) (fun _ i _ => M - (intOf i).toNat)
  case atStart => exact ⟨0, 0, RSt.new, by omega, rfl, rfl, by omega, rfl, rfl, rfl, S2.out⟩
  case round =>
    clear S2
    obtain ⟨k, nx, s, hk, rfl, rfl, hnx, hp, ht, hr, sr⟩ := hrel
    have hM := HM.out
    by_cases hlt : k < M
    · have t1 : decide ((k : Int) < b % 200) = true := decide_eq_true (by omega)
      have hri : Int.tmod (k : Int) (n : Int) = ((k % n : Nat) : Int) := by
        rw [Int.tmod_eq_emod_of_nonneg (by omega)]; exact (Int.natCast_emod k n).symm
      have hl := Nat.mod_lt k (show 0 < n by omega)
      obtain ⟨r, hr'⟩ : ∃ r, k % n = r := ⟨_, rfl⟩
      rw [hr'] at hri hl
      have hz : ((n : Int) == 0) = false := beq_eq_false_iff_ne.2 (by omega)
      obtain ⟨K, hK⟩ : ∃ K : Nat, 1 + (r : Int) = (K : Int) := ⟨1 + r, by omega⟩
      have hK0 : 1 ≤ K ∧ K ≤ n := by omega
      have RR := Lib.hid (show Rd3 n nx K nx nx nx 0 s from ⟨hp, ht, hr, fun m hm => absurd hm (by omega), fun m hm => absurd hm (by omega), fun m _ hm => absurd hm (by omega)⟩)
      have SR := Lib.hid sr
      clear hM hr' hp ht hr sr
      go_wp2_with fail
      go_loopw [11] (fun j wr => ∃ (jn : Nat) (s : RSt), jn ≤ K ∧ j = .int .i64 jn ∧ Rd3 n nx K (nx + jn) nx nx 0 s ∧ St w None wr [RingR p n s]) (fun j _ => K - (intOf j).toNat)
      case atStart => exact ⟨0, s, by omega, rfl, RR.out, SR.out⟩
      case round =>
        clear SR RR
        obtain ⟨j, s, hj, rfl, hR, sl⟩ := hrel
        have RR := Lib.hid hR
        by_cases hlj : j < K
        · obtain ⟨X, hX⟩ : ∃ X : Int, (nx : Int) + (j : Int) = X := ⟨_, rfl⟩
          obtain ⟨Y, hY⟩ : ∃ Y : Int, (((nx + j) % 60000 : Nat) : Int) = Y := ⟨_, rfl⟩
          have yb : 0 ≤ Y ∧ Y < 60000 := by omega
          have xb : 0 ≤ X ∧ X ≤ 20000 := by omega
          have hr1 : X % 60000 = Y := by omega
          have hr2 : Int.tmod X 60000 = Y := by rw [Int.tmod_eq_emod_of_nonneg xb.1]; exact hr1
          have hok : s.ok n := okk h0 hn (by rw [hR.taken, hR.reaped]; exact Nat.le_refl _) (by rw [hR.taken, hR.put]; omega) (by rw [hR.reaped, hR.put]; omega) (by rw [hR.put]; omega)
          have hP : PutP n s (dY Y) X 0 (upS s Y) := Or.inr (Or.inr ⟨dY_may yb, by rw [hR.put, hR.reaped]; omega, by rw [hR.put]; omega, rfl, rfl⟩)
          have PU := Lib.hid (Put_o sl 0 rfl hok (dY Y) (dY_fits yb) X 0 hP (by rw [hR.put]; omega))
          have UR := Lib.hid (show Rd3 n nx K (nx + (j + 1)) nx nx 0 (upS s Y) by rw [← hY]; exact up_rd hR rfl)
          unfold dY Dsc.v at PU
          dsimp only at PU
          have HX := Lib.hid hX
          clear hP hok hR hY sl
          go_wp2_with fail
          refine PU.out.mono ?_
          rintro r' w6 ⟨rfl, s6⟩
          go_wp2_with fail
          go_roundw
          case rel => exact ⟨j + 1, upS s Y, by omega, by go_num, UR.out, s6⟩
          case measure => simp [intOf]; omega
        · obtain rfl : j = K := by omega
          have SL := Lib.hid sl
          clear sl hR hlj
          go_wp2_with fail
          go_loopw [14] (fun x wr => ∃ (i : Nat) (s : RSt), i ≤ j ∧ x = .int .i64 i ∧ Rd3 n nx j (nx + j) (nx + i) nx i s ∧ St w None wr [RingR p n s]) (fun x _ => j - (intOf x).toNat)
          case atStart => exact ⟨0, s, by omega, rfl, RR.out, SL.out⟩
          case round =>
            clear SL RR
            obtain ⟨i, s, hi, rfl, hR, sl⟩ := hrel
            have RR := Lib.hid hR
            by_cases hli : i < j
            · obtain ⟨X, hX⟩ : ∃ X : Int, (nx : Int) + (i : Int) = X := ⟨_, rfl⟩
              obtain ⟨Y, hY⟩ : ∃ Y : Int, (((nx + i) % 60000 : Nat) : Int) = Y := ⟨_, rfl⟩
              have yb : 0 ≤ Y ∧ Y < 60000 := by omega
              have xb : 0 ≤ X ∧ X ≤ 20000 := by omega
              have hr1 : X % 60000 = Y := by omega
              have hr2 : Int.tmod X 60000 = Y := by rw [Int.tmod_eq_emod_of_nonneg xb.1]; exact hr1
              have hok : s.ok n := okk h0 hn (by rw [hR.taken, hR.reaped]; omega) (by rw [hR.taken, hR.put]; omega) (by rw [hR.reaped, hR.put]; omega) (by rw [hR.put]; omega)
              have hP : TakeP s X (s.D (nx + i)) 0 ⟨s.put, s.taken + 1, s.reaped, s.D⟩ := Or.inr ⟨by rw [hR.taken, hR.put]; omega, by rw [hR.taken]; omega, by rw [hR.taken], rfl, rfl⟩
              have hok2 := (hP.ok hok).1
              have hF : FinP ⟨s.put, s.taken + 1, s.reaped, s.D⟩ X i 0 (tkS s (nx + i) i) := Or.inr (Or.inr ⟨by omega, by show (s.reaped : Int) ≤ X; rw [hR.reaped]; omega, by show X < ((s.taken + 1 : Nat) : Int); rw [hR.taken]; omega, by rw [show X.toNat = nx + i by omega]; exact hR.no i (Nat.le_refl _) (by omega), rfl, by rw [show X.toNat = nx + i by omega]; rfl⟩)
              have TK := Lib.hid (Take_o sl 0 rfl hok X 0 _ hP)
              have FI := Lib.hid (fun (W : World) (H : St w None W [RingR p n ⟨s.put, s.taken + 1, s.reaped, s.D⟩]) => Finish_o H 0 rfl hok2 X i 0 hF)
              have UR := Lib.hid (tk_rd hR (show nx + i < nx + j by omega))
              have hreq := hR.req i (by omega)
              rw [hY] at hreq
              obtain ⟨o, ho⟩ : ∃ o, s.D (nx + i) = o := ⟨_, rfl⟩
              rw [ho] at TK hreq
              obtain ⟨oop, oreq, osl, ogen, ofr, olen, odv, odn, ost⟩ := o
              dsimp only at hreq
              subst hreq
              unfold Dsc.v at TK
              dsimp only at TK
              clear hP hF hok hok2 hR hY sl ho
              go_wp2_with fail
              refine TK.out.mono ?_
              rintro r' w6 ⟨rfl, s6⟩
              have s7 : St w None (w6.alloc (.cells #[.int .i64 oop, .int .i64 oreq, .int .i64 osl, .int .u64 ogen, .int .i64 ofr, .int .i64 olen, .bool odv, .bool odn, .int .i64 ost] 36)) [RingR p n ⟨s.put, s.taken + 1, s.reaped, s.D⟩] := s6.alloc _
              have F2 := Lib.hid (FI.out _ s7)
              clear s6 s7 TK FI
              go_wp2_with fail
              refine F2.out.mono ?_
              rintro r' w8 ⟨rfl, s8⟩
              go_wp2_with fail
              go_roundw
              case rel => exact ⟨i + 1, tkS s (nx + i) i, by omega, by go_num, UR.out, s8⟩
              case measure => simp [intOf]; omega
            · obtain rfl : i = j := by omega
              have SL := Lib.hid sl
              clear sl hR hli
              go_wp2_with fail
              go_loopw [18] (fun x wr => ∃ (m : Nat) (s : RSt), m ≤ i ∧ x = .int .i64 m ∧ Rd3 n nx i (nx + i) (nx + i) (nx + m) i s ∧ St w None wr [RingR p n s]) (fun x _ => i - (intOf x).toNat)
              case atStart => exact ⟨0, s, by omega, rfl, RR.out, SL.out⟩
              case round =>
                clear SL RR
                obtain ⟨m, s, hm, rfl, hR, sl⟩ := hrel
                by_cases hlm : m < i
                · obtain ⟨X, hX⟩ : ∃ X : Int, (nx : Int) + (m : Int) = X := ⟨_, rfl⟩
                  obtain ⟨Y, hY⟩ : ∃ Y : Int, (((nx + m) % 60000 : Nat) : Int) = Y := ⟨_, rfl⟩
                  have yb : 0 ≤ Y ∧ Y < 60000 := by omega
                  have xb : 0 ≤ X ∧ X ≤ 20000 := by omega
                  have hr1 : X % 60000 = Y := by omega
                  have hr2 : Int.tmod X 60000 = Y := by rw [Int.tmod_eq_emod_of_nonneg xb.1]; exact hr1
                  have hok : s.ok n := okk h0 hn (by rw [hR.taken, hR.reaped]; omega) (by rw [hR.taken, hR.put]; omega) (by rw [hR.reaped, hR.put]; omega) (by rw [hR.put]; omega)
                  have hP : ReapP s (s.D (nx + m)) 0 ⟨s.put, s.taken, s.reaped + 1, s.D⟩ := Or.inr (Or.inr ⟨by rw [hR.reaped, hR.put]; omega, by rw [hR.reaped]; exact (hR.yes m hlm).1, by rw [hR.reaped], rfl, rfl⟩)
                  have RP := Lib.hid (Reap_o sl 0 rfl hok _ 0 hP)
                  have UR := Lib.hid (show Rd3 n nx i (nx + i) (nx + i) (nx + (m + 1)) i ⟨s.put, s.taken, s.reaped + 1, s.D⟩ from ⟨hR.put, hR.taken, by show s.reaped + 1 = _; rw [hR.reaped]; omega, hR.req, hR.yes, hR.no⟩)
                  have hreq := hR.req m (by omega)
                  have hst := (hR.yes m hlm).2
                  rw [hY] at hreq
                  obtain ⟨o, ho⟩ : ∃ o, s.D (nx + m) = o := ⟨_, rfl⟩
                  rw [ho] at RP hreq hst
                  obtain ⟨oop, oreq, osl, ogen, ofr, olen, odv, odn, ost⟩ := o
                  dsimp only at hreq hst
                  subst hreq hst
                  unfold Dsc.v at RP
                  dsimp only at RP
                  clear hP hok hR hY sl ho
                  go_wp2_with fail
                  refine RP.out.mono ?_
                  rintro r' w6 ⟨rfl, s6⟩
                  have s7 : St w None (w6.alloc (.cells #[.int .i64 oop, .int .i64 oreq, .int .i64 osl, .int .u64 ogen, .int .i64 ofr, .int .i64 olen, .bool odv, .bool odn, .int .i64 m] 36)) [RingR p n ⟨s.put, s.taken, s.reaped + 1, s.D⟩] := s6.alloc _
                  have S7 := Lib.hid s7
                  clear s6 s7 RP
                  go_wp2_with fail
                  go_roundw
                  case rel => exact ⟨m + 1, ⟨s.put, s.taken, s.reaped + 1, s.D⟩, by omega, by go_num, UR.out, S7.out⟩
                  case measure => simp [intOf]; omega
                · obtain rfl : m = i := by omega
                  go_wp2_with fail
                  go_roundw
                  case rel => exact ⟨k + 1, nx + m, s, by omega, by go_num, by go_num, by omega, hR.put, hR.taken, hR.reaped, sl⟩
                  case measure => simp [intOf]; omega
    · obtain rfl : k = M := by omega
      have t1 : decide ((k : Int) < b % 200) = false := decide_eq_false (by omega)
      have CN := Lib.hid (Counts_o sr 0 rfl)
      rw [hp, ht, hr] at CN
      clear hM
      go_wp2_with fail
      refine CN.out.mono ?_
      rintro r' w6 ⟨rfl, s6⟩
      go_wp2_with fail
      go_ret
      exact ⟨rfl, s6.below⟩

set_option maxRecDepth 100000 in
theorem lifted (os : Os) (started : os.Started) (H : Type) (enc : TypeId × Value → H) :
    ReturnsInHanded {} Try.checked os 6 .any (Rows.ringRoundSpec.pre6 enc Try.prog Try.f6 Rows.ringRoundRow.domain false) (Rows.ringRoundSpec.post enc Try.prog Try.f6 false true false false) := by
  refine law_lifted (C := Try.checked) (tb := 4) own started (by kernel_rfl) Try.func6
    (ChangeSpec.witness6 (enc := enc) (C := Try.checked) false ⟨#[], #[.int .u8 0, .int .u8 0], []⟩ 8 (by kernel_rfl) (by kernel_rfl) (by kernel_rfl) (by kernel_rfl)) laid (by kernel_rfl) (by kernel_rfl) Try.underlying4 rfl ?_
  intro W base args ds ps hval0 hA0 hlt
  have hval : ∀ (j : Nat) t v, Try.f6.params[j]? = some t → args[j]? = some v → Value.okWide Try.prog W .any base t v := hval0
  have hA : DataW.TrodAll enc Try.prog W 0 (fun _ => true) true Try.f6.params.toList args.toList ds ps := hA0
  clear hA0 hval0
  rw [Try.params6] at hA hval
  obtain ⟨v0, vs0, d0, ds0, p0, q0, hargs, rfl, rfl, h0, r0⟩ := trodAll_cons hA
  obtain ⟨v1, vs1, d1, ds1, p1, q1, rfl, rfl, rfl, h1, r1⟩ := trodAll_cons r0
  obtain ⟨rfl, rfl, rfl⟩ := trodAll_nil r1
  obtain rfl : args = #[v0, v1] := by cases args; simp_all
  obtain ⟨a0, rfl, rfl, rfl, w0⟩ := open_int Try.underlying5 (hval 0 5 v0 rfl rfl) h0
  obtain ⟨a1, rfl, rfl, rfl, w1⟩ := open_int Try.underlying5 (hval 1 5 v1 rfl rfl) h1
  refine ⟨⟨rfl, rfl, rfl⟩, ?_⟩
  exact walk a0 a1 W (bounds_u8 w0) (bounds_u8 w1)

theorem over : Rows.ringRoundRow.holds Try.pinned (OpenSpec.ofChange Rows.ringRoundSpec) :=
  OpenClaim.holds_of_wide 6 Try.f6 rfl rfl rfl rfl rfl rfl rfl ⟨rfl, rfl, rfl, rfl, rfl⟩ rfl rfl rfl rfl rfl (by kernel_rfl) Try.func6 (by kernel_rfl)
    (of_decide_eq_true (by kernel_rfl)) (by unfold Func.isWrapper; first | (rw [if_pos (by decide +kernel)]; kernel_rfl) | (rw [if_neg (by decide +kernel)]; exact ⟨rfl, rfl⟩))
    (fun os started H enc _ => lifted os started H enc)
theorem proved : Rows.RingRoundSaid := over
#print axioms proved
end Go.Proofs.Ytboepnfekfhppaa.ringRound
