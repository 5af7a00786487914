/-
  For every list of urgencies ReadyOrder answers true, and changes nothing: taken one by one, members go in the order of their urgencies, and alike ones as they came. No condition.
-/
import Derived.Test.YtebcdpgalbibkaaRows
import Derived.Test.YtebcdpgalbibkaaFr
import Derived.Test.YtebcdpgalbibkaaReadyB
namespace Go.Proofs.Ytebcdpgalbibkaa.readyOrder
open Go.ChangeShapes Go.WideShapes Go.ChangeAt Go.RowKit
set_option linter.unusedVariables false
theorem own : ownKnob Try.prog.godebug = none := by kernel_rfl
theorem laid : laidOutB Try.prog = true := by kernel_rfl
set_option maxRecDepth 100000
set_option maxHeartbeats 2000000
theorem walk (A : Option Addr) (n cap : Nat) (f : Nat → Nat) (w : World) (hm : n ≤ maxLen) (rd : Rd w A n (fun j => .int .u8 (f j : Int))) (hf : ∀ j, f j ≤ 255) :
    Calls Try.prog 4 #[.slice A n cap] w fun r w' => r = .returned (.bool true) ∧ Below w.heap.size w w' := by
  unfold maxLen at hm
  have RD := Lib.hid rd
  have HF := Lib.hid hf
  clear rd hf
  by_cases hbig : 64 < n
  · have d1 : decide (64 < (n : Int)) = true := decide_eq_true (by omega)
    have d1' : decide (64 < n) = true := decide_eq_true hbig
    go_enter Try.func4, Try.ntmps4
    go_wp2_with fail
    refine (awake_o (St.begin w)).mono ?_
    rintro r w1 ⟨rfl, s1⟩
    go_wp2_with fail
    go_ret
    exact ⟨rfl, s1.below⟩
  have d1 : decide (64 < (n : Int)) = false := decide_eq_false (by omega)
  have d1' : decide (64 < n) = false := decide_eq_false hbig
  obtain ⟨P, hP⟩ : ∃ P : Nat → Nat, ∀ j, P j = f j % 101 := ⟨_, fun j => rfl⟩
  have hP1 : ∀ j, P j < 101 := fun j => by rw [hP]; omega
  have HP := Lib.hid hP
  have HP1 := Lib.hid hP1
  clear hP hP1
  go_enter Try.func4, Try.ntmps4
  go_wp2_with fail
  refine (awake_o (St.begin w)).mono ?_
  rintro r w1 ⟨rfl, s1⟩
  go_wp2_with fail
  refine (New_o s1).mono ?_
  rintro r w2 ⟨q, rfl, s2'⟩
  have s2 : St w None w2 [QueR q QS.new] := s2'
  have S2 := Lib.hid s2
  clear s1 s2 s2'
  go_wp2_with fail
  go_loopw [4] (fun i wr => ∃ k : Nat, k ≤ n ∧ i = .int .i64 k ∧ St w None wr [QueR q (comes P k)]) (fun i _ => n - (intOf i).toNat)
  case atStart => exact ⟨0, by omega, rfl, S2.out⟩
  case round =>
    clear S2
    obtain ⟨k, hk, rfl, sr⟩ := hrel
    have SR := Lib.hid sr
    by_cases hlt : k < n
    · obtain ⟨ib, off, rfl, hib, hrd⟩ := RD.out (by omega)
      have e0 : wr.cell? ⟨ib, off + k, none⟩ = some (.int .u8 (f k)) := (sr.below.cell (p := ⟨ib, off + k, none⟩) hib).trans (hrd k hlt)
      have hfb := HF.out k
      have hpk := HP.out k
      have CO := Lib.hid (Come_o (i := 0) SR.out rfl (comes_came HP1.out (show k ≤ 64 by omega)).ok _ _ _ (comes_comeP HP1.out (show k < 64 by omega)))
      generalize f k = x at *
      have hrem : Int.tmod (x : Int) 101 = (P k : Int) := by
        rw [Int.tmod_eq_emod_of_nonneg (by omega), hpk]; exact (Int.natCast_emod x 101).symm
      have hwx : IntKind.i64.wrap (x : Int) = (x : Int) := IntWalk.i64_in _ ⟨by omega, by omega⟩
      have hwp : IntKind.i64.wrap (P k : Int) = (P k : Int) := by have := HP1.out k; exact IntWalk.i64_in _ ⟨by omega, by omega⟩
      clear hpk sr hrd
      go_wp2_with fail
      refine CO.out.mono ?_
      rintro r' w3 ⟨rfl, s3'⟩
      have s3 : St w None w3 [QueR q (comes P (k + 1))] := s3'
      clear s3' CO
      go_wp2_with fail
      go_roundw
      case rel => exact ⟨k + 1, by omega, by go_num, s3⟩
      case measure => simp [intOf]; omega
    · obtain rfl : k = n := by omega
      have HL := Lib.hid (comes_came HP1.out (show k ≤ 64 by omega)).left
      generalize comes P k = s0 at *
      clear sr
      go_wp2_with fail
      go_loopw [5, 6] (fun x5 i wr => ∃ (m : Nat) (last : Int) (s : QS), m ≤ k ∧ i = .int .i64 m ∧ x5 = .int .i64 last ∧ Left P k m last s ∧ St w None wr [QueR q s]) (fun _ i _ => k - (intOf i).toNat)
      case atStart => exact ⟨0, -1, s0, by omega, rfl, rfl, HL.out, SR.out⟩
      case round =>
        clear HL SR s0
        obtain ⟨m, last, s, hmk, rfl, rfl, hL, sr⟩ := hrel
        have LT := Lib.hid hL
        have SR := Lib.hid sr
        clear hL
        by_cases hlt : m < k
        · obtain ⟨a, ha, hfi, hgo, hle, hla⟩ := LT.out.step hlt
          have FI := Lib.hid (First_o (i := 0) SR.out rfl LT.out.ok _ _ _ hfi)
          have GO := Lib.hid (fun (W : World) (K : St w None W [QueR q s]) => Go_o (i := 0) K rfl LT.out.ok _ _ hgo)
          have HLE := Lib.hid hle
          have HLA := Lib.hid hla
          obtain ⟨ib, off, rfl, hib, hrd⟩ := RD.out (by omega)
          have CE := Lib.hid (fun (W : World) (K : Below w.heap.size w W) j (hj : j < k) => (K.cell (p := ⟨ib, off + j, none⟩) hib).trans (hrd j hj))
          have hfb := HF.out a
          have hpa := HP.out a
          have a1 : decide ((a : Int) < 0) = false := decide_eq_false (by omega)
          have a2 : decide ((k : Int) ≤ (a : Int)) = false := decide_eq_false (by omega)
          have a2' : decide (k ≤ a) = false := decide_eq_false (by omega)
          have hrem : Int.tmod (f a : Int) 101 = (P a : Int) := by
            rw [Int.tmod_eq_emod_of_nonneg (by omega), hpa]; exact (Int.natCast_emod (f a) 101).symm
          have hwx : IntKind.i64.wrap (f a : Int) = (f a : Int) := IntWalk.i64_in _ ⟨by omega, by omega⟩
          have hwp : IntKind.i64.wrap (P a : Int) = (P a : Int) := by have := HP1.out a; exact IntWalk.i64_in _ ⟨by omega, by omega⟩
          clear hpa sr hrd hfi hgo hle hla
          go_wp2_with fail
          refine FI.out.mono ?_
          rintro r' w3 ⟨rfl, s3⟩
          have S3 := Lib.hid s3
          have c3 := CE.out _ s3.below a ha
          have G3 := Lib.hid (GO.out _ s3)
          clear s3 GO FI
          go_wp2_with fail
          refine G3.out.mono ?_
          rintro r' w4 ⟨rfl, s4'⟩
          have s4 : St w None w4 [QueR q (s.go a)] := s4'
          have S4 := Lib.hid s4
          clear G3 c3 s4 s4'
          rcases HLA.out with e | ⟨l, e, hl, hlx⟩
          · subst e
            clear HLA
            go_wp2_with fail
            go_roundw
            case rel => exact ⟨m + 1, a, _, by omega, by go_num, rfl, HLE.out, S4.out⟩
            case measure => simp [intOf]; omega
          · subst e
            have c4 := CE.out _ S4.out.below l hl
            have hfl := HF.out l
            have hpl := HP.out l
            have l1 : decide ((0 : Int) ≤ (l : Int)) = true := decide_eq_true (by omega)
            have hreml : Int.tmod (f l : Int) 101 = (P l : Int) := by
              rw [Int.tmod_eq_emod_of_nonneg (by omega), hpl]; exact (Int.natCast_emod (f l) 101).symm
            have hwl : IntKind.i64.wrap (f l : Int) = (f l : Int) := IntWalk.i64_in _ ⟨by omega, by omega⟩
            have hwpl : IntKind.i64.wrap (P l : Int) = (P l : Int) := by have := HP1.out l; exact IntWalk.i64_in _ ⟨by omega, by omega⟩
            clear HLA hpl
            rcases hlx with h | ⟨h, h2⟩
            · have h : P l < P a := h
              have p1 : decide ((P a : Int) < (P l : Int)) = false := decide_eq_false (by omega)
              have p1' : decide (P a < P l) = false := decide_eq_false (by omega)
              have p2 : ((P l : Int) == (P a : Int)) = false := beq_eq_false_iff_ne.2 (by omega)
              have p2' : (P l == P a) = false := beq_eq_false_iff_ne.2 (by omega)
              clear h
              go_wp2_with fail
              go_roundw
              case rel => exact ⟨m + 1, a, _, by omega, by go_num, rfl, HLE.out, S4.out⟩
              case measure => simp [intOf]; omega
            · have h : P l = P a := h
              have h2 : l < a := h2
              have p1 : decide ((P a : Int) < (P l : Int)) = false := decide_eq_false (by omega)
              have p1' : decide (P a < P l) = false := decide_eq_false (by omega)
              have p2 : ((P l : Int) == (P a : Int)) = true := beq_iff_eq.2 (by omega)
              have p2' : (P l == P a) = true := beq_iff_eq.2 (by omega)
              have p3 : decide ((a : Int) < (l : Int)) = false := decide_eq_false (by omega)
              have p3' : decide (a < l) = false := decide_eq_false (by omega)
              clear h
              go_wp2_with fail
              go_roundw
              case rel => exact ⟨m + 1, a, _, by omega, by go_num, rfl, HLE.out, S4.out⟩
              case measure => simp [intOf]; omega
        · have hall : s.all = [] := List.length_eq_zero_iff.1 (by have := LT.out.len; omega)
          have FI := Lib.hid (First_o (i := 0) SR.out rfl LT.out.ok 0 0 5 (Or.inl ⟨hall, rfl, rfl, rfl⟩))
          have AL := Lib.hid (fun (W : World) (K : St w None W [QueR q s]) => All_o (i := 0) K rfl LT.out.ok)
          rw [hall] at AL
          clear hall sr
          go_wp2_with fail
          refine FI.out.mono ?_
          rintro r' w3 ⟨rfl, s3⟩
          have A3 := Lib.hid (AL.out _ s3)
          clear s3 FI AL
          go_wp2_with fail
          refine A3.out.mono ?_
          rintro r' w4 ⟨B, c, rfl, s4⟩
          go_wp2_with fail
          go_ret
          exact ⟨rfl, s4.below⟩

set_option maxRecDepth 100000 in
theorem lifted (os : Os) (started : os.Started) (H : Type) (enc : TypeId × Value → H) :
    ReturnsInHanded {} Try.checked os 4 .any (Rows.readyOrderSpec.pre6 enc Try.prog Try.f4 Rows.readyOrderRow.domain false) (Rows.readyOrderSpec.post enc Try.prog Try.f4 false true false false) := by
  refine law_lifted (C := Try.checked) (tb := 4) own started (by kernel_rfl) Try.func4
    (ChangeSpec.witness6 (enc := enc) (C := Try.checked) false ⟨#[], #[.slice none 0 0], []⟩ 8 (by kernel_rfl) (by kernel_rfl) (by kernel_rfl) (by kernel_rfl)) laid (by kernel_rfl) (by kernel_rfl) Try.underlying4 rfl ?_
  intro W base args ds ps hval0 hA0 hlt
  have hval : ∀ (j : Nat) t v, Try.f4.params[j]? = some t → args[j]? = some v → Value.okWide Try.prog W .any base t v := hval0
  have hA : DataW.TrodAll enc Try.prog W 0 (fun _ => true) true Try.f4.params.toList args.toList ds ps := hA0
  clear hA0 hval0
  rw [Try.params4] at hA hval
  obtain ⟨v0, vs0, d0, ds0, p0, q0, hargs, rfl, rfl, h0, r0⟩ := trodAll_cons hA
  obtain ⟨rfl, rfl, rfl⟩ := trodAll_nil r0
  obtain rfl : args = #[v0] := by cases args; simp_all
  obtain ⟨A0, n0, cap0, f0, rfl, le0, mx0, wf0, rd0⟩ := open_slice_ints Try.underlying41 Try.underlying5 (by kernel_rfl) (hval 0 41 v0 rfl rfl) h0
  refine ⟨⟨rfl, rfl, rfl⟩, ?_⟩
  exact walk A0 n0 cap0 (fun j => (f0 j).toNat) W (by omega) (by
    have e : (fun j => Value.int .u8 (f0 j)) = fun j => Value.int .u8 (((f0 j).toNat : Nat) : Int) := by
      funext j
      rw [Int.toNat_of_nonneg (bounds_u8 (wf0 j)).1]
    rw [← e]; exact rd0) (fun j => by have := bounds_u8 (wf0 j); omega)

theorem over : Rows.readyOrderRow.holds Try.pinned (OpenSpec.ofChange Rows.readyOrderSpec) :=
  OpenClaim.holds_of_wide 4 Try.f4 rfl rfl rfl rfl rfl rfl rfl ⟨rfl, rfl, rfl, rfl, rfl⟩ rfl rfl rfl rfl rfl (by kernel_rfl) Try.func4 (by kernel_rfl)
    (of_decide_eq_true (by kernel_rfl)) (by unfold Func.isWrapper; first | (rw [if_pos (by decide +kernel)]; kernel_rfl) | (rw [if_neg (by decide +kernel)]; exact ⟨rfl, rfl⟩))
    (fun os started H enc _ => lifted os started H enc)
theorem proved : Rows.ReadyOrderSaid := over
#print axioms proved
end Go.Proofs.Ytebcdpgalbibkaa.readyOrder
