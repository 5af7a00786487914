/-
  For every cost, time and further ticks LifeAdmits answers true, and changes nothing: a request is let in just if its abort time is later than now; if it is one or two ticks later, nothing comes out a tick ahead of it, and at it the request alone, aborted by its time. No condition.
-/
import Derived.Test.YthdhfjcgboglfaaRows
import Derived.Test.YthdhfjcgboglfaaFr
import Derived.Test.YthdhfjcgboglfaaLifeT
namespace Go.Proofs.Ythdhfjcgboglfaa.lifeAdmits
open Go.ChangeShapes Go.WideShapes Go.ChangeAt Go.RowKit
set_option linter.unusedVariables false
theorem own : ownKnob Try.prog.godebug = none := by kernel_rfl
theorem laid : laidOutB Try.prog = true := by kernel_rfl
set_option maxRecDepth 100000
set_option maxHeartbeats 4000000
def sE (C N : Int) (op : Nat → Option (Int × Int)) : Bk := ⟨C, N, op, []⟩
def opE (D : Int) : Nat → Option (Int × Int) := updO (fun _ => none) 0 (some (7, D))
section
variable {C N D u : Int}
theorem go_0 (h0 : N ≤ u) (h1 : u < 4611686018427387904) : goA N u = 0 := by unfold goA; rw [if_pos h1, if_neg (by omega)]
theorem gon0 (h0 : 0 ≤ N) (h1 : N < 4611686018427387904) : (Bk.new C).gon N = sE C N (fun _ => none) := by
  unfold Bk.gon
  rw [if_pos (show goA (Bk.new C).now N = 0 from go_0 h0 h1)]
  have : opF (Bk.new C) N = fun _ => none := by funext k; rfl
  rw [this]; rfl
theorem opn_0 (h : N + C < D) (h1 : D < 4611686018427387904) : opnA (sE C N (fun _ => none)) 7 D = 0 := by
  unfold opnA
  rw [if_neg (by omega), if_neg (by omega), show slotO (sE C N (fun _ => none)).op 7 = none from slotO_none 7, if_neg (by decide), show cntO (sE C N (fun _ => none)).op = 0 from cf_none 64, if_neg (by decide), if_neg (by show ¬ (D ≤ N + C); omega)]
theorem opn_11 (h : D ≤ N + C) (h1 : D < 4611686018427387904) : opnA (sE C N (fun _ => none)) 7 D = 11 := by
  unfold opnA
  rw [if_neg (by omega), if_neg (by omega), show slotO (sE C N (fun _ => none)).op 7 = none from slotO_none 7, if_neg (by decide), show cntO (sE C N (fun _ => none)).op = 0 from cf_none 64, if_neg (by decide), if_pos (show D ≤ (sE C N (fun _ => none)).now + (sE C N (fun _ => none)).cost from h)]
theorem opnE (h : N + C < D) (h1 : D < 4611686018427387904) : (sE C N (fun _ => none)).opn 7 D = sE C N (opE D) := by
  unfold Bk.opn
  rw [if_pos (opn_0 h h1)]
  show sE C N (updO (fun _ => none) (freeO (fun _ => none)) (some (7, D))) = _
  rw [show freeO (fun _ => none) = 0 by kernel_rfl]; rfl
theorem opnN (h : D ≤ N + C) (h1 : D < 4611686018427387904) : (sE C N (fun _ => none)).opn 7 D = sE C N (fun _ => none) := by
  unfold Bk.opn
  rw [if_neg (by rw [opn_11 h h1]; decide)]
theorem opE_at (k : Nat) : opE D k = if k = 0 then some (7, D) else none := rfl
theorem opE_some {k : Nat} {x : Int × Int} (h : opE D k = some x) : k = 0 ∧ x = (7, D) := by
  rw [opE_at] at h
  by_cases e : k = 0
  · rw [if_pos e] at h; injection h with h; exact ⟨e, h.symm⟩
  · rw [if_neg e] at h; cases h
theorem uqE : UqO (opE D) := ⟨fun k x h => by have := (opE_some h).1; omega, fun j k x y h1 h2 _ => by rw [(opE_some h1).1, (opE_some h2).1]⟩
theorem slotE : slotO (opE D) 7 = some 0 := uqE.slot (d := D) rfl
theorem deadE : deadO (opE D) 7 = D := by unfold deadO; rw [slotE]; rfl
theorem okE (c0 : 1 ≤ C) (c1 : C ≤ 1000) (n0 : 0 ≤ N) (h : N + C < D) (h1 : D < 4611686018427387904) : (sE C N (opE D)).ok :=
  ⟨c0, c1, n0, uqE, fun k x hx => by
    obtain ⟨_, rfl⟩ := opE_some hx
    exact ⟨by show (0 : Int) ≤ 7; omega, by show (7 : Int) ≤ 65535; omega, by show N < D - C; omega, h1⟩⟩
theorem gonE (h0 : N ≤ u) (h1 : u < 4611686018427387904) (h : u < D - C) : (sE C N (opE D)).gon u = sE C u (opE D) := by
  unfold Bk.gon
  rw [if_pos (show goA (sE C N (opE D)).now u = 0 from go_0 h0 h1)]
  have : opF (sE C N (opE D)) u = opE D := by
    funext k
    unfold opF
    show (match opE D k with | some x => if x.2 - C ≤ u then none else some x | none => none) = _
    rw [opE_at]
    by_cases e : k = 0
    · rw [if_pos e]; exact if_neg (show ¬ D - C ≤ u by omega)
    · rw [if_neg e]
  rw [this]; rfl
theorem outN (c0 : 1 ≤ C) (c1 : C ≤ 1000) (n0 : 0 ≤ N) (hd : N + C < D) (h2 : D < 4611686018427387904) (h0 : N ≤ u) (h1 : u < 4611686018427387904) (h : u < D - C) {o : List Ft} (ho : OutP (sE C N (opE D)) u o) : o = [] := by
  refine ho.uniq (okE c0 c1 n0 hd h2) ?_
  unfold OutP
  rw [if_pos (show goA (sE C N (opE D)).now u = 0 from go_0 h0 h1)]
  refine ⟨[], ⟨by simp, fun x => ?_, fun a b x y _ hx _ => by simp at hx⟩, rfl⟩
  constructor
  · intro hx; cases hx
  · rintro ⟨k, d, hk, hdu⟩
    have := (opE_some hk).2
    injection this with _ e
    subst e
    have : d - C ≤ u := hdu
    omega
theorem outE (c0 : 1 ≤ C) (c1 : C ≤ 1000) (n0 : 0 ≤ N) (hd : N + C < D) (h2 : D < 4611686018427387904) (h0 : N ≤ u) (h1 : u < 4611686018427387904) (h : D - C ≤ u) {o : List Ft} (ho : OutP (sE C N (opE D)) u o) : o = [⟨7, 2, 1⟩] := by
  refine ho.uniq (okE c0 c1 n0 hd h2) ?_
  unfold OutP
  rw [if_pos (show goA (sE C N (opE D)).now u = 0 from go_0 h0 h1)]
  refine ⟨[7], ⟨by simp, fun x => ?_, fun a b x y hab hx hy => ?_⟩, rfl⟩
  · constructor
    · intro hx
      obtain rfl : x = 7 := by simpa using hx
      exact ⟨0, D, rfl, h⟩
    · rintro ⟨k, d, hk, _⟩
      have := (opE_some hk).2
      injection this with e _
      have : x = 7 := by omega
      simp [this]
  · have := (List.getElem?_eq_some_iff.1 hy).1
    simp at this
    omega
end
theorem walk (a b c : Int) (w : World) (ba : 0 ≤ a ∧ a ≤ 65535) (bb : 0 ≤ b ∧ b ≤ 4294967295) (bc : 0 ≤ c ∧ c ≤ 255) :
    Calls Try.prog 7 #[.int .u16 a, .int .u32 b, .int .u8 c] w fun r w' => r = .returned (.bool true) ∧ Below w.heap.size w w' := by
  have d0 : 0 ≤ a % 1000 := Int.emod_nonneg _ (by omega)
  have d1 : a % 1000 < 1000 := Int.emod_lt_of_pos _ (by omega)
  have m0 : 0 ≤ c % 3 := Int.emod_nonneg _ (by omega)
  have m1 : c % 3 < 3 := Int.emod_lt_of_pos _ (by omega)
  obtain ⟨x, hx⟩ : ∃ x, a % 1000 = x := ⟨_, rfl⟩
  obtain ⟨z, hz⟩ : ∃ z, c % 3 = z := ⟨_, rfl⟩
  rw [hx] at d0 d1
  rw [hz] at m0 m1
  obtain ⟨C, hC⟩ : ∃ C, 1 + x = C := ⟨_, rfl⟩
  obtain ⟨c0, c1⟩ : 1 ≤ C ∧ C ≤ 1000 := by omega
  obtain ⟨D, hD⟩ : ∃ D, b + C + z = D := ⟨_, rfl⟩
  have AW := Lib.hid (awake_c w)
  go_enter Try.func7, Try.ntmps7
  go_wp2_with fail
  refine AW.out.mono ?_
  rintro e w1 ⟨rfl, s1⟩
  have NW := Lib.hid (bNew_o (c := C) s1 (by unfold newA; rw [if_neg (by omega)]))
  clear AW s1
  go_wp2_with fail
  simp only [hx]
  refine NW.out.mono ?_
  rintro e w2 ⟨g, rfl, s2⟩
  have GO := Lib.hid (bGo_o (s := Bk.new C) (u := b) s2 0 rfl (by omega) (by show (0 : Nat) ≤ 90000; omega))
  rw [gon0 (by omega) (by omega), show goA (Bk.new C).now b = 0 from go_0 (by show (0 : Int) ≤ b; omega) (by omega)] at GO
  clear NW s2
  go_wp2_with fail
  refine GO.out.mono ?_
  rintro e w3 ⟨B, n, d, out, rfl, ho, hn, hn9, s3⟩
  have OP := Lib.hid (bOpen_o (id := 7) (dead := D) s3 0 rfl (wf_small (by omega) (by omega)) (by omega) (by omega))
  clear GO ho hn hn9
  rcases Int.lt_or_le (b + C) D with hlt | hle
  · rw [opn_0 hlt (by omega), opnE hlt (by omega)] at OP
    have z0 : (z == 0) = false := beq_eq_false_iff_ne.2 (by omega)
    have HLT := Lib.hid hlt
    obtain ⟨v, hv⟩ : ∃ v, D - C = v := ⟨_, rfl⟩
    obtain ⟨u, hu⟩ : ∃ u, v - 1 = u := ⟨_, rfl⟩
    have HV := Lib.hid (show v = b + z ∧ u = b + z - 1 ∧ 1 ≤ z by omega)
    have wv : IntKind.u64.wrap (D - C) = v := by rw [hv]; exact IntWalk.u64_in _ ⟨by omega, by omega⟩
    have wu : IntKind.u64.wrap (v - 1) = u := by rw [hu]; exact IntWalk.u64_in _ ⟨by omega, by omega⟩
    clear s3
    go_wp2_with fail
    simp only [hz]
    refine OP.out.mono ?_
    rintro e w4 ⟨rfl, s4⟩
    have HA := Lib.hid (bHas_o (id := 7) s4 0 rfl (wf_small (by omega) (by omega)))
    rw [show deadO (sE C b (opE D)).op 7 = D from deadE, show slotO (sE C b (opE D)).op 7 = some 0 from slotE, show (some 0).isSome = true from rfl] at HA
    clear OP s4
    go_wp2_with fail
    refine HA.out.mono ?_
    rintro e w5 ⟨rfl, s5⟩
    have G1 := Lib.hid (bGo_o (u := u) s5 0 rfl (by have := HV.out; omega) (by show (0 : Nat) ≤ 90000; omega))
    rw [gonE (by have := HV.out; omega) (by have := HV.out; omega) (by have := HV.out; omega), show goA (sE C b (opE D)).now u = 0 from go_0 (by have := HV.out; show b ≤ u; omega) (by have := HV.out; omega)] at G1
    clear HA s5
    go_wp2_with fail
    refine G1.out.mono ?_
    rintro e w6 ⟨B1, n1, d1', o1, rfl, ho1, hn1, hn91, s6⟩
    obtain rfl := outN c0 c1 (by omega) HLT.out (by omega) (by have := HV.out; omega) (by have := HV.out; omega) (by have := HV.out; omega) ho1
    obtain rfl : n1 = 0 := by simpa using hn1.symm
    have G2 := Lib.hid (bGo_o (u := v) s6 0 rfl (by have := HV.out; omega) (by show (0 : Nat) ≤ 90000; omega))
    rw [show goA (sE C u (opE D)).now v = 0 from go_0 (by have := HV.out; show u ≤ v; omega) (by have := HV.out; omega)] at G2
    clear G1 s6 ho1 hn1 hn91
    go_wp2_with fail
    refine G2.out.mono ?_
    rintro e w7 ⟨B2, n2, d2', o2, rfl, ho2, hn2, hn92, s7⟩
    obtain rfl := outE c0 c1 (by have := HV.out; omega) (by have := HV.out; omega) (by omega) (by have := HV.out; omega) (by have := HV.out; omega) (by omega) ho2
    obtain rfl : n2 = 1 := by simpa using hn2.symm
    obtain ⟨g2, off, rfl, hc⟩ := (s7.lis 3 rfl).reads.2.resolve_left (by omega)
    have x0 := hc 0 _ rfl
    have x1 := hc 1 _ rfl
    have x2 := hc 2 _ rfl
    rw [Nat.add_zero] at x0
    have q2 : ∀ W, (binOp .eql 50 (.agg #[.int .i64 7, .int .i64 2, .int .i64 1]) (.agg #[.int .i64 7, .int .i64 2, .int .i64 1])).run Try.prog W = .ok (.bool true) W := fun W => by kernel_rfl
    have S7 := Lib.hid s7
    clear G2 s7 ho2 hn2 hn92 hc
    go_wp2_with fail
    go_ret
    exact ⟨rfl, S7.out.below⟩
  · rw [opn_11 hle (by omega), opnN hle (by omega)] at OP
    have z0 : (z == 0) = true := by simpa using (show z = 0 by omega)
    clear s3
    go_wp2_with fail
    simp only [hz]
    refine OP.out.mono ?_
    rintro e w4 ⟨rfl, s4⟩
    have CN := Lib.hid (bCount_o s4 0 rfl)
    rw [show cntO (sE C b (fun _ => none)).op = 0 from cf_none 64] at CN
    clear OP s4
    go_wp2_with (first
      | (go_at_call 21; refine CN.out.mono ?_; rintro e w5 ⟨rfl, s5⟩; have S5 := Lib.hid s5; clear s5)
      | fail)
    go_ret
    exact ⟨rfl, S5.out.below⟩

set_option maxRecDepth 100000 in
theorem lifted (os : Os) (started : os.Started) (H : Type) (enc : TypeId × Value → H) :
    ReturnsInHanded {} Try.checked os 7 .any (Rows.lifeAdmitsSpec.pre6 enc Try.prog Try.f7 Rows.lifeAdmitsRow.domain false) (Rows.lifeAdmitsSpec.post enc Try.prog Try.f7 false true false false) := by
  refine law_lifted (C := Try.checked) (tb := 4) own started (by kernel_rfl) Try.func7
    (ChangeSpec.witness6 (enc := enc) (C := Try.checked) false ⟨#[], #[.int .u16 0, .int .u32 0, .int .u8 0], []⟩ 8 (by kernel_rfl) (by kernel_rfl) (by kernel_rfl) (by kernel_rfl)) laid (by kernel_rfl) (by kernel_rfl) Try.underlying4 rfl ?_
  intro W base args ds ps hval0 hA0 hlt
  have hval : ∀ (j : Nat) t v, Try.f7.params[j]? = some t → args[j]? = some v → Value.okWide Try.prog W .any base t v := hval0
  have hA : DataW.TrodAll enc Try.prog W 0 (fun _ => true) true Try.f7.params.toList args.toList ds ps := hA0
  clear hA0 hval0
  rw [Try.params7] at hA hval
  obtain ⟨v0, vs0, d0, ds0, p0, q0, hargs, rfl, rfl, h0, r0⟩ := trodAll_cons hA
  obtain ⟨v1, vs1, d1, ds1, p1, q1, rfl, rfl, rfl, h1, r1⟩ := trodAll_cons r0
  obtain ⟨v2, vs2, d2, ds2, p2, q2, rfl, rfl, rfl, h2, r2⟩ := trodAll_cons r1
  obtain ⟨rfl, rfl, rfl⟩ := trodAll_nil r2
  obtain rfl : args = #[v0, v1, v2] := by cases args; simp_all
  obtain ⟨a0, rfl, rfl, rfl, w0⟩ := open_int Try.underlying53 (hval 0 53 v0 rfl rfl) h0
  obtain ⟨a1, rfl, rfl, rfl, w1⟩ := open_int Try.underlying57 (hval 1 57 v1 rfl rfl) h1
  obtain ⟨a2, rfl, rfl, rfl, w2⟩ := open_int Try.underlying5 (hval 2 5 v2 rfl rfl) h2
  refine ⟨⟨rfl, rfl, rfl⟩, ?_⟩
  have b0 := bounds_u16 w0
  have b1 := bounds_u32 w1
  have b2 := bounds_u8 w2
  exact walk a0 a1 a2 W b0 b1 b2

theorem over : Rows.lifeAdmitsRow.holds Try.pinned (OpenSpec.ofChange Rows.lifeAdmitsSpec) :=
  OpenClaim.holds_of_wide 7 Try.f7 rfl rfl rfl rfl rfl rfl rfl ⟨rfl, rfl, rfl, rfl, rfl⟩ rfl rfl rfl rfl rfl (by kernel_rfl) Try.func7 (by kernel_rfl)
    (of_decide_eq_true (by kernel_rfl)) (by unfold Func.isWrapper; first | (rw [if_pos (by decide +kernel)]; kernel_rfl) | (rw [if_neg (by decide +kernel)]; exact ⟨rfl, rfl⟩))
    (fun os started H enc _ => lifted os started H enc)
theorem proved : Rows.LifeAdmitsSaid := over
#print axioms proved
end Go.Proofs.Ythdhfjcgboglfaa.lifeAdmits
