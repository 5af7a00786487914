/-
  For every burst BusTurns answers true, and changes nothing: of two alike masters who always want the bus the first has it for a burst, then the other for a slot, and so on. No condition.
-/
import Derived.Test.YtabocojmobbpaaaRows
import Derived.Test.YtabocojmobbpaaaFr
import Derived.Test.YtabocojmobbpaaaBusJ
import Derived.LoopTactic
namespace Go.Proofs.Ytabocojmobbpaaa.busTurns
open Go.ChangeShapes Go.WideShapes Go.ChangeAt Go.RowKit
set_option linter.unusedVariables false
theorem own : ownKnob Try.prog.godebug = none := by kernel_rfl
theorem laid : laidOutB Try.prog = true := by kernel_rfl
set_option maxRecDepth 100000
set_option maxHeartbeats 1000000
def f10 (j : Nat) : Int := if j = 0 then 1 else 0
theorem rd10 (w : World) (t : TypeId) : Rd (w.alloc (.cells #[.int .i64 1, .int .i64 0] t)) (some ⟨w.heap.size, 0, none⟩) 2 (fun j => .int .i64 (f10 j)) :=
  rd_new w t _ 2 _ (fun j hj => by
    match j, hj with
    | 0, _ | 1, _ => rfl
    | j + 2, h => omega)
theorem ok10 : okB 2 f10 2 = true := by decide
theorem want0 : wantB 2 f10 0 = true := by decide
theorem want1 : wantB 2 f10 1 = true := by decide
/-- Two alike masters, with a burst of x. -/
def C2 (x : Int) : BC := ⟨2, fun _ => 4, fun _ => x, fun _ => 1000, fun _ => 1000, 0⟩
theorem c2_ok {x : Int} (h1 : 1 ≤ x) (h2 : x ≤ 9) : (C2 x).OK :=
  ⟨by show 1 ≤ 2; omega, by show 2 ≤ 16; omega, fun _ _ => by show (0 : Int) ≤ 4 ∧ (4 : Int) ≤ 100; omega, fun _ _ => by show (0 : Int) ≤ x ∧ x ≤ 1000; omega, fun _ _ => by show (1 : Int) ≤ 1000 ∧ (1000 : Int) ≤ 1000 ∧ (1000 : Int) ≤ 1099511627776; omega, by show (0 : Int) ≤ 0 ∧ (0 : Int) < 4611686018427387904; omega⟩
/-- Behind k slots. -/
structure Turn (x : Int) (k : Nat) (s : BS) : Prop where
  next : s.next = k
  sw : ∀ i K, sw K (s.ws i) ≤ k
  sum : s.st 0 + s.st 1 = k
  last : (k = 0 ∧ s.who = -1 ∧ s.row = 0) ∨ (0 < k ∧ ((((k : Int) - 1) % (x + 1) = x ∧ s.who = 1 ∧ s.row = 1) ∨ (((k : Int) - 1) % (x + 1) < x ∧ s.who = 0 ∧ s.row = ((k : Int) - 1) % (x + 1) + 1)))
theorem mod_next {k x : Int} (hx : 1 ≤ x) (hk : 0 < k) : (((k - 1) % (x + 1) = x ∧ k % (x + 1) = 0) ∨ ((k - 1) % (x + 1) < x ∧ k % (x + 1) = (k - 1) % (x + 1) + 1)) := by
  have h0 := Int.emod_nonneg (k - 1) (show x + 1 ≠ 0 by omega)
  have h1 := Int.emod_lt_of_pos (k - 1) (show 0 < x + 1 by omega)
  have e := Int.emod_add_mul_ediv (k - 1) (x + 1)
  generalize (k - 1) % (x + 1) = r at *
  generalize (k - 1) / (x + 1) = q at *
  by_cases hr : r = x
  · left
    refine ⟨hr, ?_⟩
    have : k = (x + 1) * (q + 1) := by rw [Int.mul_add]; omega
    rw [this, Int.mul_emod_right]
  · right
    refine ⟨by omega, ?_⟩
    have : k = (r + 1) + (x + 1) * q := by omega
    rw [this, Int.add_mul_emod_self_left, Int.emod_eq_of_lt (by omega) (by omega)]
theorem fst2 {q : Nat → Bool} : fst q (fun _ => 4) 2 = if q 0 = true then 0 else if q 1 = true then 1 else -1 := by
  simp only [fst]
  cases h0 : q 0 <;> cases h1 : q 1 <;> simp
theorem turn_step {x : Int} {k : Nat} {s s' : BS} {v f : Int} (h1 : 1 ≤ x) (h2 : x ≤ 9) (hk : k < 100) (h : Turn x k s) (hR : SlotR (C2 x) s k (okB 2 f10 (C2 x).n) (wantB 2 f10) v f s') :
    f = 0 ∧ ((k : Int) % (x + 1) = x ∧ v = 1 ∨ (k : Int) % (x + 1) ≠ x ∧ v = 0) ∧ s'.who = v ∧ 1 ≤ s'.row ∧ s'.row ≤ x ∧ Turn x (k + 1) s' := by
  have hn := h.next
  have hw1 : s.who1 k = s.who := if_neg (by omega)
  have hr1 : s.row1 k = s.row := if_neg (by omega)
  have hK : ∀ i, (C2 x).K i k = 0 := fun i => by show ((k : Int) - 0) / 1000 = 0; omega
  have hl : ∀ i, 0 < (C2 x).left s.ws i k := fun i => by
    have := h.sw i 0
    unfold BC.left
    rw [hK]
    show 0 < 1000 - Go.Proofs.Ytabocojmobbpaaa.sw 0 (s.ws i)
    omega
  have hm : ∀ i : Nat, mayB (C2 x) s.ws (s.who1 k) (s.row1 k) k i = !(decide (s.who = i) && decide (x ≤ s.row)) := fun i => by
    unfold mayB
    rw [hw1, hr1]
    simp only [decide_eq_true (hl i), Bool.and_true]
    rw [show decide (0 < (C2 x).burst i) = true from decide_eq_true (show 0 < x by omega)]
    simp; rfl
  have hb : best (C2 x) s k (wantB 2 f10) = if ¬ (s.who = 0 ∧ x ≤ s.row) then 0 else if ¬ (s.who = 1 ∧ x ≤ s.row) then 1 else -1 := by
    unfold best
    show fst _ (fun _ => 4) 2 = _
    rw [fst2, want0, want1, hm, hm]
    by_cases a1 : s.who = 0 <;> by_cases a2 : x ≤ s.row <;> by_cases a3 : s.who = 1 <;> simp [a1, a2, a3] <;> omega
  have hmod := fun (h : 0 < k) => mod_next (x := x) (k := k) h1 (by omega)
  have hmx := Int.emod_nonneg ((k : Int) - 1) (show x + 1 ≠ 0 by omega)
  have hz : (0 : Int) % (x + 1) = 0 := Int.zero_emod _
  have hbk : ((k : Int) % (x + 1) = x ∧ best (C2 x) s k (wantB 2 f10) = 1 ∧ s.who = 0) ∨ ((k : Int) % (x + 1) ≠ x ∧ best (C2 x) s k (wantB 2 f10) = 0 ∧ (k = 0 ∨ 0 < k ∧ (s.who = 1 ∧ (k : Int) % (x + 1) = 0 ∨ s.who = 0 ∧ (k : Int) % (x + 1) = s.row))) := by
    rcases h.last with ⟨rfl, e1, e2⟩ | ⟨hk0, ⟨e0, e1, e2⟩ | ⟨e0, e1, e2⟩⟩
    · right
      simp only [Int.natCast_zero] at *
      refine ⟨by omega, by rw [hb, if_pos (by omega)], Or.inl trivial⟩
    · right
      have := hmod hk0
      refine ⟨by omega, by rw [hb, if_pos (by omega)], Or.inr ⟨hk0, Or.inl ⟨e1, by omega⟩⟩⟩
    · have := hmod hk0
      by_cases hrx : s.row = x
      · left
        refine ⟨by omega, by rw [hb, if_neg (by omega), if_pos (by omega)], e1⟩
      · right
        refine ⟨by omega, by rw [hb, if_pos (by omega)], Or.inr ⟨hk0, Or.inr ⟨e1, by omega⟩⟩⟩
  have hok : okB 2 f10 (C2 x).n = true := ok10
  rw [hok] at hR
  rcases hR with ⟨g, _⟩ | ⟨_, g, _⟩ | ⟨_, _, _, g, _⟩ | ⟨_, _, _, b, hbn, g, rfl, rfl, rfl⟩
  · omega
  · exact absurd ⟨rfl, by omega⟩ g
  · omega
  · have hsw : ∀ i K, Go.Proofs.Ytabocojmobbpaaa.sw K (upd s.ws b (s.ws b ++ [((C2 x).K b k, 1)]) i) ≤ ((k + 1 : Nat) : Int) := fun i K => by
      unfold upd
      split
      · rename_i e; subst e; rw [sw_app]; have := h.sw i K; dsimp only; split <;> omega
      · have := h.sw i K; omega
    have hs0 := h.sum
    have hk2 : ((k + 1 : Nat) : Int) - 1 = k := by omega
    rw [hw1, hr1]
    rcases hbk with ⟨g1, g2, g3⟩ | ⟨g1, g2, g3⟩
    · have hbb : b = 1 := by omega
      subst hbb
      refine ⟨rfl, Or.inl ⟨g1, rfl⟩, rfl, ?_, ?_, ⟨by show (k : Int) + 1 = _; omega, hsw, ?_, Or.inr ⟨by omega, Or.inl ⟨by rw [hk2]; exact g1, rfl, ?_⟩⟩⟩⟩
      · show 1 ≤ (if s.who = ((1 : Nat) : Int) then s.row else 0) + 1; rw [if_neg (by omega)]; omega
      · show (if s.who = ((1 : Nat) : Int) then s.row else 0) + 1 ≤ x; rw [if_neg (by omega)]; omega
      · show stl s.st (wantB 2 f10) ((1 : Nat) : Int) 0 + stl s.st (wantB 2 f10) ((1 : Nat) : Int) 1 = ((k + 1 : Nat) : Int)
        unfold stl
        rw [if_pos ⟨want0, by omega⟩, if_neg (by simp)]; omega
      · show (if s.who = ((1 : Nat) : Int) then s.row else 0) + 1 = 1; rw [if_neg (by omega)]; omega
    · have hbb : b = 0 := by omega
      subst hbb
      have hm0 := Int.emod_nonneg (k : Int) (show x + 1 ≠ 0 by omega)
      have hmlt := Int.emod_lt_of_pos (k : Int) (show 0 < x + 1 by omega)
      have hrow : (if s.who = ((0 : Nat) : Int) then s.row else 0) + 1 = (k : Int) % (x + 1) + 1 := by
        rcases g3 with rfl | ⟨hk0, ⟨e1, e2⟩ | ⟨e1, e2⟩⟩
        · rcases h.last with ⟨_, e1, e2⟩ | ⟨hk0, _⟩
          · rw [if_neg (by omega)]; simp [hz]
          · omega
        · rw [if_neg (by omega)]; omega
        · rw [if_pos (by omega)]; omega
      refine ⟨rfl, Or.inr ⟨g1, rfl⟩, rfl, ?_, ?_, ⟨by show (k : Int) + 1 = _; omega, hsw, ?_, Or.inr ⟨by omega, Or.inr ⟨by rw [hk2]; omega, rfl, ?_⟩⟩⟩⟩
      · show 1 ≤ (if s.who = ((0 : Nat) : Int) then s.row else 0) + 1; omega
      · show (if s.who = ((0 : Nat) : Int) then s.row else 0) + 1 ≤ x; omega
      · show stl s.st (wantB 2 f10) ((0 : Nat) : Int) 0 + stl s.st (wantB 2 f10) ((0 : Nat) : Int) 1 = ((k + 1 : Nat) : Int)
        unfold stl
        rw [if_neg (by simp), if_pos ⟨want1, by omega⟩]; omega
      · show (if s.who = ((0 : Nat) : Int) then s.row else 0) + 1 = _; rw [hk2]; exact hrow
theorem walk (a : Int) (w : World) (ba : 0 ≤ a ∧ a ≤ 255) :
    Calls Try.prog 8 #[.int .u8 a] w fun r w' => r = .returned (.bool true) ∧ Below w.heap.size w w' := by
  obtain ⟨x, hx⟩ : ∃ x, 1 + a % 9 = x := ⟨_, rfl⟩
  have h1 : 1 ≤ x := by omega
  have h9 : x ≤ 9 := by omega
  have HX := Lib.hid hx
  clear hx
  have HC := Lib.hid (c2_ok h1 h9)
  have h0 : (bs0 0).OK (C2 x) 0 := bs0_ok HC.out
  have H0 := Lib.hid h0
  have HT := Lib.hid (show Turn x 0 (bs0 0) from ⟨rfl, fun i K => by simp [sw], rfl, Or.inl ⟨rfl, rfl, rfl⟩⟩)
  have HM := Lib.hid (show (2 : Nat) ≤ maxLen by unfold maxLen; omega)
  clear h0
  go_enter Try.func8, Try.ntmps8
  go_wp2_with fail
  refine (bawake _).mono ?_
  rintro e w1 ⟨rfl, hw1⟩
  go_wp2_with fail
  rw [HX.out]
  have s0 : St w None w1 [] := (St.begin w).stay hw1
  have RD := v2_rd (w1.alloc (.cells #[.int .i64 4, .int .i64 x, .int .u64 1000, .int .u64 1000] 34)) 34 4 x 1000 1000
  rw [show (w1.alloc (.cells #[.int .i64 4, .int .i64 x, .int .u64 1000, .int .u64 1000] 34)).heap.size = w1.heap.size + 1 by simp] at RD
  refine (bnew2 HC.out rfl rfl (v2_mv 4 x 1000 1000 0) ((s0.alloc (.cells #[.int .i64 4, .int .i64 x, .int .u64 1000, .int .u64 1000] 34)).alloc _) RD).mono ?_
  rintro e w2 ⟨b, g, mp, rfl, s2⟩
  clear s0 RD
  go_wp2_with fail
  go_loopw [7] (fun t wr => ∃ (k : Nat) (s : BS), k ≤ 100 ∧ t = .int .i64 k ∧ Turn x k s ∧ s.OK (C2 x) k ∧ St w None wr [BusP (C2 x) b g mp s]) (fun t _ => 100 - (intOf t).toNat)
  case atStart => exact ⟨0, _, by omega, rfl, HT.out, H0.out, s2⟩
  case round =>
    clear s2
    obtain ⟨k, s, hk, rfl, hT, hO, sr⟩ := hrel
    have HTT := Lib.hid hT
    have HOO := Lib.hid hO
    clear hT hO
    by_cases hlt : k < 100
    · obtain ⟨v, f, s', hR⟩ := slotR_ex (C2 x) s k (okB 2 f10 (C2 x).n) (wantB 2 f10)
      obtain ⟨rfl, hv, g1, g2, g3, hT2⟩ := turn_step h1 h9 hlt HTT.out hR
      have HT2 := Lib.hid hT2
      have HO2 := Lib.hid (hR.next HOO.out)
      have HR := Lib.hid hR
      have G1 := Lib.hid g1
      clear hR hT2 g1
      rcases hv with ⟨hm, rfl⟩ | ⟨hm, rfl⟩
      · have dm : ((k : Int) % (x + 1) == x) = true := beq_iff_eq.2 hm
        clear hm
        go_wp2_with fail
        refine (Slot_o (sr.alloc _) 0 rfl HC.out HOO.out (by omega) (by omega) HM.out (rd10 _ _) HR.out).mono ?_
        rintro e w3 ⟨rfl, s3⟩
        go_wp2_with fail
        refine (row_o s3 0 rfl).mono ?_
        rintro e w4 ⟨rfl, s4⟩
        rw [G1.out]
        go_wp2
        go_roundw
        case rel => exact ⟨k + 1, s', by omega, by go_num, HT2.out, HO2.out, s4⟩
        case measure => simp [intOf]; omega
      · have dm : ((k : Int) % (x + 1) == x) = false := beq_eq_false_iff_ne.2 hm
        clear hm
        go_wp2_with fail
        refine (Slot_o (sr.alloc _) 0 rfl HC.out HOO.out (by omega) (by omega) HM.out (rd10 _ _) HR.out).mono ?_
        rintro e w3 ⟨rfl, s3⟩
        go_wp2_with fail
        refine (row_o s3 0 rfl).mono ?_
        rintro e w4 ⟨rfl, s4⟩
        rw [G1.out]
        go_wp2
        go_roundw
        case rel => exact ⟨k + 1, s', by omega, by go_num, HT2.out, HO2.out, s4⟩
        case measure => simp [intOf]; omega
    · obtain rfl : k = 100 := by omega
      have hsum := HTT.out.sum
      have b0 := HOO.out.st 0 (by show 0 < 2; omega)
      have b1 := HOO.out.st 1 (by show 1 < 2; omega)
      have dz : s.st 0 + s.st 1 = 100 := by omega
      have DZ := Lib.hid dz
      clear dz hsum
      go_wp2_with fail
      refine (stalls_yes sr 0 rfl HC.out 0 (by show 0 < 2; omega)).mono ?_
      rintro e w3 ⟨rfl, s3⟩
      go_wp2_with fail
      refine (stalls_yes s3 0 rfl HC.out 1 (by show 1 < 2; omega)).mono ?_
      rintro e w4 ⟨rfl, s4⟩
      have dd : (s.st 0 + s.st 1 == 100) = true := beq_iff_eq.2 DZ.out
      go_wp2
      go_ret
      exact ⟨rfl, s4.below⟩

set_option maxRecDepth 100000 in
theorem lifted (os : Os) (started : os.Started) (H : Type) (enc : TypeId × Value → H) :
    ReturnsInHanded {} Try.checked os 8 .any (Rows.busTurnsSpec.pre6 enc Try.prog Try.f8 Rows.busTurnsRow.domain false) (Rows.busTurnsSpec.post enc Try.prog Try.f8 false true false false) := by
  refine law_lifted (C := Try.checked) (tb := 4) own started (by kernel_rfl) Try.func8
    (ChangeSpec.witness6 (enc := enc) (C := Try.checked) false ⟨#[], #[.int .u8 0], []⟩ 8 (by kernel_rfl) (by kernel_rfl) (by kernel_rfl) (by kernel_rfl)) laid (by kernel_rfl) (by kernel_rfl) Try.underlying4 rfl ?_
  intro W base args ds ps hval0 hA0 hlt
  have hval : ∀ (j : Nat) t v, Try.f8.params[j]? = some t → args[j]? = some v → Value.okWide Try.prog W .any base t v := hval0
  have hA : DataW.TrodAll enc Try.prog W 0 (fun _ => true) true Try.f8.params.toList args.toList ds ps := hA0
  clear hA0 hval0
  rw [Try.params8] at hA hval
  obtain ⟨v0, vs0, d0, ds0, p0, q0, hargs, rfl, rfl, h0, r0⟩ := trodAll_cons hA
  obtain ⟨rfl, rfl, rfl⟩ := trodAll_nil r0
  obtain rfl : args = #[v0] := by cases args; simp_all
  obtain ⟨a0, rfl, rfl, rfl, w0⟩ := open_int Try.underlying5 (hval 0 5 v0 rfl rfl) h0
  refine ⟨⟨rfl, rfl, rfl⟩, ?_⟩
  exact walk a0 W (bounds_u8 w0)

theorem over : Rows.busTurnsRow.holds Try.pinned (OpenSpec.ofChange Rows.busTurnsSpec) :=
  OpenClaim.holds_of_wide 8 Try.f8 rfl rfl rfl rfl rfl rfl rfl ⟨rfl, rfl, rfl, rfl, rfl⟩ rfl rfl rfl rfl rfl (by kernel_rfl) Try.func8 (by kernel_rfl)
    (of_decide_eq_true (by kernel_rfl)) (by unfold Func.isWrapper; first | (rw [if_pos (by decide +kernel)]; kernel_rfl) | (rw [if_neg (by decide +kernel)]; exact ⟨rfl, rfl⟩))
    (fun os started H enc _ => lifted os started H enc)
theorem proved : Rows.BusTurnsSaid := over
#print axioms proved
end Go.Proofs.Ytabocojmobbpaaa.busTurns
