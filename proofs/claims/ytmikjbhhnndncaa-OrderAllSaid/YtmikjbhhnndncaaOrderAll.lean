/-
  For every list of requests OrderAll answers true, and changes nothing: all are told by their times, then tracks, then numbers, each once; the first of them is of the least time, and so is the next one. No condition.
-/
import Derived.Test.YtmikjbhhnndncaaRows
import Derived.Test.YtmikjbhhnndncaaFr
import Derived.Test.YtmikjbhhnndncaaOrdV
import Derived.Test.YtmikjbhhnndncaaOrdB
import Derived.Deep.DeepCutAuto
import Derived.Deep.CutBlock
import Derived.Deep.RegionHeld3
import Derived.Test.YtmikjbhhnndncaaOpen
import Derived.Test.YtmikjbhhnndncaaRd
namespace Go.Proofs.Ytmikjbhhnndncaa.orderAll
open Go.ChangeShapes Go.WideShapes Go.ChangeAt Go.RowKit
set_option linter.unusedVariables false
theorem own : ownKnob Try.prog.godebug = none := by kernel_rfl
theorem laid : laidOutB Try.prog = true := by kernel_rfl
set_option maxRecDepth 100000
set_option maxHeartbeats 2000000
theorem walk (A : Option Addr) (n cap : Nat) (V : Nat → Nat → Value) (w : World) (hm : n ≤ maxLen) (rd : RdM w A n 3 V) (hV : ∀ j, j < n → ∃ x : Wt, V j 0 = .int .i64 x.id ∧ V j 1 = .int .u64 x.dead ∧ V j 2 = .int .i64 x.track ∧ 0 ≤ x.dead) :
    Calls Try.prog 8 #[.slice A n cap] w fun r w' => r = .returned (.bool true) ∧ Below w.heap.size w w' := by
  unfold maxLen at hm
  have RD := Lib.hid rd
  have HV := Lib.hid hV
  clear rd hV
  have AW := Lib.hid (awake_o (St.begin w))
  by_cases hbig : 64 < n
  · have d1 : decide (64 < (n : Int)) = true := decide_eq_true (by omega)
    have d1' : decide (64 < n) = true := decide_eq_true hbig
    go_enter Try.func8, Try.ntmps8
    go_wp2_with fail
    refine AW.out.mono ?_
    rintro r w1 ⟨rfl, s1⟩
    go_wp2_with fail
    go_ret
    exact ⟨rfl, s1.below⟩
  have d1 : decide (64 < (n : Int)) = false := decide_eq_false (by omega)
  have d1' : decide (64 < n) = false := decide_eq_false hbig
  go_enter Try.func8, Try.ntmps8
  go_wp2_with fail
  refine AW.out.mono ?_
  rintro r w1 ⟨rfl, s1⟩
  have N1 := Lib.hid (New_o s1)
  clear s1 AW
  go_wp2_with fail
  refine N1.out.mono ?_
  rintro r w2 ⟨q, rfl, s2⟩
  have S3 := Lib.hid (show St w None (w2.alloc (.cells #[.slice none 0 0, .int .i64 0, .bool false] 29)) [OQR q OSt.new, RQR w2.heap.size OSt.new] from rnew s2)
  clear s2 N1
  obtain ⟨r, hr⟩ : ∃ r, r = w2.heap.size := ⟨_, rfl⟩
  have HR := Lib.hid hr
  clear hr
  go_wp2_with fail
  go_loopw [5] (fun i wr => ∃ (k : Nat) (s : OSt), k ≤ n ∧ i = .int .i64 k ∧ s.ok ∧ St w None wr [OQR q s, RQR w2.heap.size s]) (fun i _ => n - (intOf i).toNat)
  case atStart => exact ⟨0, OSt.new, by omega, rfl, OSt.new_ok, S3.out⟩
  case round =>
  clear S3
  obtain ⟨k, s, hk, rfl, hok, sr⟩ := hrel
  rw [← HR.out] at sr ⊢
  by_cases hkn : k < n
  · obtain ⟨x, v0, v1, v2, hx0⟩ := HV.out k hkn
    have hat := fun (W : World) (K : Below w.heap.size w W) => RD.out.at3 K hkn
    obtain ⟨ib, off, rfl, e0, e1, e2⟩ := hat _ sr.below
    rw [v0] at e0
    rw [v1] at e1
    rw [v2] at e2
    have t0 : decide ((k : Int) < (n : Int)) = true := decide_eq_true (by omega)
    have t0' : decide (k < n) = true := decide_eq_true hkn
    have CE := Lib.hid (fun (W : World) (K : Below w.heap.size w W) => show W.cell? ⟨ib, off + k * 3, none⟩ = some (.int .i64 x.id) ∧ W.cell? ⟨ib, off + k * 3 + 1, none⟩ = some (.int .u64 x.dead) ∧ W.cell? ⟨ib, off + k * 3 + 2, none⟩ = some (.int .i64 x.track) from by
      obtain ⟨ib', off', he, g0, g1, g2⟩ := hat _ K
      obtain ⟨rfl, rfl⟩ : ib = ib' ∧ off = off' := by simpa using he
      exact ⟨g0.trans (by rw [v0]), g1.trans (by rw [v1]), g2.trans (by rw [v2])⟩)
    obtain ⟨f, s', hP⟩ := addP_ex s x
    have HP := Lib.hid hP
    have OK := Lib.hid hok
    have OK' := Lib.hid (hP.ok hok)
    have HX0 := Lib.hid hx0
    have SR := Lib.hid sr
    have z1 : (f != f) = false := by simp
    have qq := And.intro e0 (And.intro e1 e2)
    clear hat hP hok sr v0 v1 v2
    go_wp2_with fail
    go_region_held3 (fun W => W.cell? ⟨ib, off + k * 3, none⟩ = some (.int .i64 x.id) ∧ W.cell? ⟨ib, off + k * 3 + 1, none⟩ = some (.int .u64 x.dead) ∧ W.cell? ⟨ib, off + k * 3 + 2, none⟩ = some (.int .i64 x.track)) (go_keep)
      (first
        | (go_at_call 11; refine (Add_o SR.out.drew 0 rfl OK.out HX0.out HP.out).mono ?_; rintro r' w6 ⟨rfl, s6⟩; have S6 := Lib.hid s6; have q6 := CE.out _ s6.below; clear s6)
        | (go_at_call 12; refine (rAdd_o S6.out 1 rfl OK.out HX0.out HP.out).mono ?_; rintro r' w7 ⟨rfl, s7⟩; have S7 := Lib.hid s7; have q7 := CE.out _ s7.below; clear s7))
    have S8 := Lib.hid (show St w None w7 [OQR q s', RQR r s'] from S7.out)
    clear q6 q7 S6 S7 SR HP qq e0 e1 e2
    go_wp2_with fail
    go_roundw
    case rel => exact ⟨k + 1, s', by omega, by go_num, OK'.out, by first | (rw [← HR.out]; exact S8.out) | exact S8.out⟩
    case measure => simp [intOf]; omega
  · have t0 : decide ((k : Int) < (n : Int)) = false := decide_eq_false (by omega)
    have t0' : decide (k < n) = false := decide_eq_false hkn
    have AC := Lib.hid (All_o sr 0 rfl hok)
    have OK := Lib.hid hok
    have HLE := Lib.hid hok.len
    obtain ⟨m, hm'⟩ : ∃ m, m = s.l.length := ⟨_, rfl⟩
    have HM := Lib.hid hm'
    have hm64 : m ≤ 64 := by have := HLE.out; omega
    unfold AllP at AC
    rw [← hm'] at AC
    clear sr hok hm'
    go_wp2_with fail
    refine AC.out.mono ?_
    rintro r' w4 ⟨B, d, l', rfl, hp, ho, s4⟩
    have HPM := Lib.hid hp
    have HO := Lib.hid ho
    have S4 := Lib.hid (show St w None w4 [OQR q s, RQR r s, LisR 32 3 (.slice B m d) m (ovs l')] from s4)
    have HL := Lib.hid (lis_len (S4.out.lis 2 rfl))
    clear hp ho s4 AC
    go_wp2_with fail
    go_loopw [7] (fun i wr => ∃ j : Nat, (j = 0 ∨ j < m) ∧ i = .int .i64 ((j + 1 : Nat) : Int) ∧ St w None wr [OQR q s, RQR r s, LisR 32 3 (.slice B m d) m (ovs l')]) (fun i _ => 66 - (intOf i).toNat)
    case atStart => exact ⟨0, Or.inl rfl, rfl, S4.out⟩
    case round =>
    clear S4
    obtain ⟨j, hj, rfl, sr⟩ := hrel
    by_cases hjm : j + 1 < m
    · obtain ⟨⟨x1, x2, x3⟩, hx⟩ : ∃ x, l'[j]? = some x := ⟨_, List.getElem?_eq_getElem (by rw [HL.out]; omega)⟩
      obtain ⟨⟨y1, y2, y3⟩, hy⟩ : ∃ y, l'[j + 1]? = some y := ⟨_, List.getElem?_eq_getElem (by rw [HL.out]; omega)⟩
      have HW := Lib.hid (show x2 < y2 ∨ (x2 = y2 ∧ (x3 < y3 ∨ (x3 = y3 ∧ x1 < y1))) from ahead_ways (HO.out j (j + 1) _ _ (by omega) hx hy) (all_once OK.out HPM.out (show j < j + 1 by omega) hx hy))
      obtain ⟨b, off, rfl, _, e0, e1, e2⟩ := want_at (sr.lis 2 rfl) hx
      obtain ⟨b', off', he, _, g0, g1, g2⟩ := want_at (sr.lis 2 rfl) hy
      obtain ⟨rfl, rfl⟩ : b = b' ∧ off = off' := by simpa using he
      dsimp only at e0 e1 e2 g0 g1 g2
      have t0 : decide (((j + 1 : Nat) : Int) < (m : Int)) = true := decide_eq_true (by omega)
      have t1 : decide ((j : Int) + 1 < (m : Int)) = true := decide_eq_true (by omega)
      have t2 : decide (j + 1 < m) = true := decide_eq_true hjm
      have tj : j < m := by omega
      have G0 : ∀ c, (wr.alloc c).cell? ⟨b, off + (j + 1) * 3, none⟩ = some (.int .i64 y1) := fun c => cell_alloc g0 c
      have G1 : ∀ c, (wr.alloc c).cell? ⟨b, off + (j + 1) * 3 + 1, none⟩ = some (.int .u64 y2) := fun c => cell_alloc g1 c
      have G2 : ∀ c, (wr.alloc c).cell? ⟨b, off + (j + 1) * 3 + 2, none⟩ = some (.int .i64 y3) := fun c => cell_alloc g2 c
      have u : St w None ((wr.alloc (.cells #[.int .i64 x1, .int .u64 x2, .int .i64 x3] 32)).alloc (.cells #[.int .i64 y1, .int .u64 y2, .int .i64 y3] 32)) [OQR q s, RQR r s, LisR 32 3 (.slice (some ⟨b, off, none⟩) m d) m (ovs l'), BlkR wr.heap.size 32 #[.int .i64 x1, .int .u64 x2, .int .i64 x3], BlkR (wr.heap.size + 1) 32 #[.int .i64 y1, .int .u64 y2, .int .i64 y3]] := by
        have t := (St.box (L := [_, _, _]) sr 32 #[.int .i64 x1, .int .u64 x2, .int .i64 x3]).box 32 #[.int .i64 y1, .int .u64 y2, .int .i64 y3]
        rw [show (wr.alloc (.cells #[.int .i64 x1, .int .u64 x2, .int .i64 x3] 32)).heap.size = wr.heap.size + 1 by simp] at t
        exact t
      obtain ⟨a0, a1, a2⟩ := (u.blk 3 rfl).three
      obtain ⟨b0, b1, b2⟩ := (u.blk 4 rfl).three
      have U := Lib.hid (show St w None _ [OQR q s, RQR r s, LisR 32 3 (.slice (some ⟨b, off, none⟩) m d) m (ovs l')] from u.take 3)
      clear sr u hx hy he
      rcases HW.out with h1 | ⟨h1, h2⟩
      · have p1 : decide (y2 < x2) = false := decide_eq_false (by omega)
        have p2 : (x2 == y2) = false := beq_eq_false_iff_ne.2 (by omega)
        clear h1 HW
        go_wp2_with fail
        go_roundw
        case rel => exact ⟨j + 1, Or.inr hjm, by go_num, U.out⟩
        case measure => simp [intOf]; omega
      subst h1
      have p1 : decide (x2 < x2) = false := decide_eq_false (by omega)
      have p2 : (x2 == x2) = true := beq_self_eq_true _
      rcases h2 with h2 | ⟨h2, h3⟩
      · have p3 : decide (y3 < x3) = false := decide_eq_false (by omega)
        have p4 : (x3 == y3) = false := beq_eq_false_iff_ne.2 (by omega)
        clear h2 HW
        go_wp2_with fail
        go_roundw
        case rel => exact ⟨j + 1, Or.inr hjm, by go_num, U.out⟩
        case measure => simp [intOf]; omega
      · subst h2
        have p3 : decide (x3 < x3) = false := decide_eq_false (by omega)
        have p4 : (x3 == x3) = true := beq_self_eq_true _
        have p5 : decide (y1 ≤ x1) = false := decide_eq_false (by omega)
        clear h3 HW
        go_wp2_with fail
        go_roundw
        case rel => exact ⟨j + 1, Or.inr hjm, by go_num, U.out⟩
        case measure => simp [intOf]; omega
    · have t0 : decide (((j + 1 : Nat) : Int) < (m : Int)) = false := decide_eq_false (by omega)
      have t1 : decide ((j : Int) + 1 < (m : Int)) = false := decide_eq_false (by omega)
      have t2 : decide (j + 1 < m) = false := decide_eq_false hjm
      obtain ⟨x, up, f, hN⟩ := nextP_ex OK.out
      have CN := Lib.hid (Next_o sr 0 rfl OK.out hN)
      have HN := Lib.hid hN
      clear sr hN
      go_wp2_with fail
      refine CN.out.mono ?_
      rintro r' w5 ⟨rfl, s5⟩
      have u : St w None (w5.alloc (.cells #[.int .i64 x.id, .int .u64 x.dead, .int .i64 x.track] 32)) [OQR q s, RQR r s, LisR 32 3 (.slice B m d) m (ovs l'), BlkR w5.heap.size 32 #[.int .i64 x.id, .int .u64 x.dead, .int .i64 x.track]] := St.box (L := [_, _, _]) s5 _ _
      obtain ⟨b0, b1, b2⟩ := (u.blk 3 rfl).three
      have U := Lib.hid u
      clear s5 u CN
      rcases HN.out.code with ⟨hnil, rfl⟩ | ⟨rfl, hne⟩
      · obtain rfl : m = 0 := by rw [HM.out, hnil]; rfl
        clear hnil
        go_wp2_with fail
        go_ret
        exact ⟨rfl, U.out.below⟩
      · have hm0 : 0 < m := by
          rw [HM.out]; exact List.length_pos_iff.2 hne
        obtain ⟨y, hy⟩ : ∃ y, l'[0]? = some y := ⟨_, List.getElem?_eq_getElem (by rw [HL.out]; exact hm0)⟩
        have hyd : y.dead = x.dead := (all_first OK.out HPM.out HO.out hy).trans (NextP.dead HN.out).symm
        obtain ⟨b, off, rfl, _, e0, e1, e2⟩ := want_at (U.out.lis 2 rfl) hy
        rw [hyd, Nat.zero_mul, Nat.add_zero] at e1
        obtain ⟨T, A', c', hT⟩ := U.out.get 1 rfl
        have r0 := ((St.start hT).blk 0 rfl).three.1
        rw [← HM.out] at r0
        have z0 : ((m : Int) == 0) = false := beq_eq_false_iff_ne.2 (by omega)
        have z1 : (x.dead == x.dead) = true := beq_self_eq_true _
        have z2 : ((m : Int) == (m : Int)) = true := beq_self_eq_true _
        have hm1 : (0 : Int) < (m : Int) := by omega
        clear hne hy hyd hT e0 e2
        go_wp2_with fail
        go_quiet (fail)
        go_wp2_with fail
        go_ret
        exact ⟨rfl, (U.out.drewN _).below⟩

set_option maxRecDepth 100000 in
theorem lifted (os : Os) (started : os.Started) (H : Type) (enc : TypeId × Value → H) :
    ReturnsInHanded {} Try.checked os 8 .any (Rows.orderAllSpec.pre6 enc Try.prog Try.f8 Rows.orderAllRow.domain false) (Rows.orderAllSpec.post enc Try.prog Try.f8 false true false false) := by
  refine law_lifted (C := Try.checked) (tb := 4) own started (by kernel_rfl) Try.func8
    (ChangeSpec.witness6 (enc := enc) (C := Try.checked) false ⟨#[], #[.slice none 0 0], []⟩ 8 (by kernel_rfl) (by kernel_rfl) (by kernel_rfl) (by kernel_rfl)) laid (by kernel_rfl) (by kernel_rfl) Try.underlying4 rfl ?_
  intro W base args ds ps hval0 hA0 hlt
  have hval : ∀ (j : Nat) t v, Try.f8.params[j]? = some t → args[j]? = some v → Value.okWide Try.prog W .any base t v := hval0
  have hA : DataW.TrodAll enc Try.prog W 0 (fun _ => true) true Try.f8.params.toList args.toList ds ps := hA0
  clear hA0 hval0
  rw [Try.params8] at hA hval
  obtain ⟨v0, vs0, d0, ds0, p0, q0, hargs, rfl, rfl, h0, r0⟩ := trodAll_cons hA
  obtain ⟨rfl, rfl, rfl⟩ := trodAll_nil r0
  obtain rfl : args = #[v0] := by cases args; simp_all
  obtain ⟨A0, n0, cap0, V0, rfl, le0, mx0, rd0, lf0⟩ := open_slice_spots (m := 3) (d := 20) (l := [(0, 3), (1, 30), (2, 3)]) Try.underlying27 (by kernel_rfl) (by decide) (by kernel_rfl) (hval 0 27 v0 rfl rfl) h0
  have f0_0 := fun j hj => leaf_int Try.underlying3 (lf0 0 3 (by simp) j hj)
  have f0_1 := fun j hj => leaf_int Try.underlying30 (lf0 1 30 (by simp) j hj)
  have f0_2 := fun j hj => leaf_int Try.underlying3 (lf0 2 3 (by simp) j hj)
  refine ⟨⟨rfl, rfl, rfl⟩, ?_⟩
  exact walk A0 n0 cap0 V0 W (by omega) rd0 (fun j hj => by
    obtain ⟨x0, h0, -⟩ := f0_0 j hj
    obtain ⟨x1, h1, b1⟩ := f0_1 j hj
    obtain ⟨x2, h2, -⟩ := f0_2 j hj
    exact ⟨⟨x0, x1, x2⟩, h0, h1, h2, (bounds_u64 b1).1⟩)

theorem over : Rows.orderAllRow.holds Try.pinned (OpenSpec.ofChange Rows.orderAllSpec) :=
  OpenClaim.holds_of_wide 8 Try.f8 rfl rfl rfl rfl rfl rfl rfl ⟨rfl, rfl, rfl, rfl, rfl⟩ rfl rfl rfl rfl rfl (by kernel_rfl) Try.func8 (by kernel_rfl)
    (of_decide_eq_true (by kernel_rfl)) (by unfold Func.isWrapper; first | (rw [if_pos (by decide +kernel)]; kernel_rfl) | (rw [if_neg (by decide +kernel)]; exact ⟨rfl, rfl⟩))
    (fun os started H enc _ => lifted os started H enc)
theorem proved : Rows.OrderAllSaid := over
#print axioms proved
end Go.Proofs.Ytmikjbhhnndncaa.orderAll
