/- Layer 8: whether a piece fits; whether a list of one piece may be. -/
import Derived.Test.YtdjhpdacglojaaaGreatPoA
import Derived.Test.YtdjhpdacglojaaaGreatMore
import Derived.Deep.QuietTactic
import Derived.BigQuiet
import Derived.Deep.RegionHeld3
namespace Go.Proofs.YtdjhpdacglojaaaGreat
open Go.RowKit
set_option linter.unusedVariables false
set_option maxRecDepth 100000
set_option maxHeartbeats 4000000
section
variable {w0 w w' : World} {S0 : Nat → Prop} {L : List Res} {p n : Nat} {st : Nat → po.Buf} {G : Int} {s g f m z c : Int}
/-- A piece that fits. -/
def fitB (z c f m : Int) : Bool := decide (c = 0 ∧ 0 ≤ f ∧ f ≤ z ∧ 1 ≤ m ∧ m ≤ z - f)
theorem sizeP_z (ok : po.POK n st G) (h : po.SizeP n st s g z c) : 0 ≤ z ∧ z ≤ 65536 ∧ (c = 0 ∨ c = 3) := by
  rcases h with ⟨_, rfl, rfl⟩ | ⟨i, hi, _, _, _, rfl, rfl⟩
  · exact ⟨by omega, by omega, Or.inr rfl⟩
  · have := (ok.b i hi).2.2.2
    exact ⟨by omega, by omega, Or.inl rfl⟩
theorem fits_o (H : St w0 S0 w L) (i : Nat) (hi : L[i]? = some (po.PoolR p n st)) (ok : po.POK n st G) (hz : po.SizeP n st s g z c) :
    Calls Tryz.prog 142 #[.pointer (some ⟨p, 0, none⟩), .agg #[.int .i64 s, .int .u64 g, .int .i64 f, .int .i64 m]] w fun e w' => e = .returned (.bool (fitB z c f m)) ∧ St w0 S0 w' L := by
  obtain ⟨z0, z1, hc⟩ := sizeP_z ok hz
  have hb := H.box 41 #[.int .i64 s, .int .u64 g, .int .i64 f, .int .i64 m]
  have hi2 : (L ++ [BlkR w.heap.size 41 #[.int .i64 s, .int .u64 g, .int .i64 f, .int .i64 m]])[i]? = some (po.PoolR p n st) := by
    rw [List.getElem?_append_left (List.getElem?_eq_some_iff.1 hi).1]; exact hi
  have K1 := Lib.hid (po.size_o hb i hi2 ok hz)
  rw [set_same hi2] at K1
  have hlast : (L ++ [BlkR w.heap.size 41 #[.int .i64 s, .int .u64 g, .int .i64 f, .int .i64 m]])[L.length]? = some (BlkR w.heap.size 41 #[.int .i64 s, .int .u64 g, .int .i64 f, .int .i64 m]) := by simp
  have CE := Lib.hid (fun (W : World) (K : St w0 S0 W (L ++ [BlkR w.heap.size 41 #[.int .i64 s, .int .u64 g, .int .i64 f, .int .i64 m]])) => (K.blk L.length hlast).four)
  have FIN := Lib.hid (fun (W : World) (K : St w0 S0 W (L ++ [BlkR w.heap.size 41 #[.int .i64 s, .int .u64 g, .int .i64 f, .int .i64 m]])) => show St w0 S0 W L from by have := K.take L.length; simpa using this)
  obtain ⟨a0, a1, a2, a3⟩ := CE.out _ hb
  obtain ⟨fb, hfb⟩ : ∃ fb, fitB z c f m = fb := ⟨_, rfl⟩
  rw [hfb]
  have HFB := Lib.hid hfb
  clear hb hi hi2 hlast hz H hfb
  go_enter Tryz.func142, Tryz.ntmps142
  go_wp2_with fail
  refine K1.out.mono ?_
  rintro e w1 ⟨rfl, s1⟩
  obtain ⟨b0, b1, b2, b3⟩ := CE.out _ s1
  have F1 := Lib.hid (FIN.out _ s1)
  clear s1 K1 a0 a1 a2 a3 CE FIN
  by_cases h1 : c = 0
  · have t1 : (c == 0) = true := beq_iff_eq.2 h1
    by_cases h2 : 0 ≤ f
    · have t2 : decide (0 ≤ f) = true := decide_eq_true h2
      by_cases h3 : f ≤ z
      · have t3 : decide (f ≤ z) = true := decide_eq_true h3
        have tw : IntKind.i64.wrap (z - f) = z - f := IntWalk.i64_in _ ⟨by omega, by omega⟩
        by_cases h4 : 1 ≤ m
        · have t4 : decide (1 ≤ m) = true := decide_eq_true h4
          by_cases h5 : m ≤ z - f
          · have t5 : decide (m ≤ z - f) = true := decide_eq_true h5
            obtain rfl : fb = true := HFB.out.symm.trans (decide_eq_true ⟨h1, h2, h3, h4, h5⟩)
            clear h1 h2 h3 h4 h5
            go_wp2_with fail
            go_ret
            exact ⟨rfl, F1.out⟩
          · have t5 : decide (m ≤ z - f) = false := decide_eq_false h5
            obtain rfl : fb = false := HFB.out.symm.trans (decide_eq_false fun h => h5 h.2.2.2.2)
            clear h1 h2 h3 h4 h5
            go_wp2_with fail
            go_ret
            exact ⟨rfl, F1.out⟩
        · have t4 : decide (1 ≤ m) = false := decide_eq_false h4
          obtain rfl : fb = false := HFB.out.symm.trans (decide_eq_false fun h => h4 h.2.2.2.1)
          clear h1 h2 h3 h4
          go_wp2_with fail
          go_ret
          exact ⟨rfl, F1.out⟩
      · have t3 : decide (f ≤ z) = false := decide_eq_false h3
        obtain rfl : fb = false := HFB.out.symm.trans (decide_eq_false fun h => h3 h.2.2.1)
        clear h1 h2 h3
        go_wp2_with fail
        go_ret
        exact ⟨rfl, F1.out⟩
    · have t2 : decide (0 ≤ f) = false := decide_eq_false h2
      obtain rfl : fb = false := HFB.out.symm.trans (decide_eq_false fun h => h2 h.2.1)
      clear h1 h2
      go_wp2_with fail
      go_ret
      exact ⟨rfl, F1.out⟩
  · have t1 : (c == 0) = false := beq_eq_false_iff_ne.2 h1
    obtain rfl : fb = false := HFB.out.symm.trans (decide_eq_false fun h => h1 h.1)
    clear h1
    go_wp2_with fail
    go_ret
    exact ⟨rfl, F1.out⟩
theorem meets_0 (w : World) (s g f m : Int) (A : Option Addr) (cap : Nat) :
    Calls Tryz.prog 143 #[.agg #[.int .i64 s, .int .u64 g, .int .i64 f, .int .i64 m], .slice A 0 cap] w fun e w' => e = .returned (.bool false) ∧ Below w.heap.size w w' := by
  have B0 := Lib.hid (((Below.refl w.heap.size w).alloc (Nat.le_refl _) (.cells #[.int .i64 s, .int .u64 g, .int .i64 f, .int .i64 m] 41)))
  go_enter Tryz.func143, Tryz.ntmps143
  go_wp2_with fail
  go_loopw [9] (fun x wr => x = .int .i64 0 ∧ Below w.heap.size w wr) (fun _ _ => 0)
  case atStart => exact ⟨rfl, B0.out⟩
  case round =>
    obtain ⟨rfl, hb⟩ := hrel
    have HB := Lib.hid hb
    clear hb
    go_wp2_with fail
    go_ret
    exact ⟨rfl, HB.out⟩
theorem may1_o (H : St w0 S0 w L) (i : Nat) (hi : L[i]? = some (po.PoolR p n st)) (ok : po.POK n st G) (hz : po.SizeP n st s g z c) {A : Option Addr} {cp : Nat} (j : Nat) (hj : L[j]? = some (LisR 41 4 (.slice A 1 cp) 1 [.int .i64 s, .int .u64 g, .int .i64 f, .int .i64 m])) :
    Calls Tryz.prog 99 #[.pointer (some ⟨p, 0, none⟩), .slice A 1 cp] w fun e w' => e = .returned (.bool (fitB z c f m)) ∧ St w0 S0 w' L := by
  obtain ⟨ib, off, rfl, -⟩ := (H.lis j hj).reads.2.resolve_left (by omega)
  have hcap : 1 ≤ cp ∧ cp ≤ maxLen := by
    obtain ⟨A', c', hv, h1, h2⟩ := (H.lis j hj).shape
    injection hv with _ _ hv
    subst hv; exact ⟨h1, h2⟩
  unfold maxLen at hcap
  obtain ⟨fb, hfb⟩ : ∃ fb, fitB z c f m = fb := ⟨_, rfl⟩
  rw [hfb]
  have HFB := Lib.hid hfb
  have HI := Lib.hid hi
  have HJ := Lib.hid hj
  have HZ := Lib.hid hz
  have SH := Lib.hid H
  clear hi hj hfb hz H
  go_enter Tryz.func99, Tryz.ntmps99
  go_wp2_with fail
  go_loopw [5, 6, 17] (fun x5 x6 x17 wr => ∃ k : Nat, (k = 0 ∨ (k = 1 ∧ fb = true)) ∧ x17 = .int .i64 (k : Int) ∧ St w0 S0 wr L) (fun _ _ x _ => 1 - (intOf x).toNat)
  case atStart => exact ⟨0, Or.inl rfl, rfl, SH.out⟩
  case round =>
    clear SH
    obtain ⟨k, hk, rfl, sr⟩ := hrel
    rcases hk with rfl | ⟨rfl, rfl⟩
    · have hc := (sr.lis j HJ.out).reads.2.resolve_left (by omega)
      obtain ⟨ib2, off2, hA, hc⟩ := hc
      injection hA with hA
      injection hA with hA1 hA2
      subst hA1 hA2
      have e0 := hc 0 _ rfl
      have e1 := hc 1 _ rfl
      have e2 := hc 2 _ rfl
      have e3 := hc 3 _ rfl
      rw [Nat.add_zero] at e0
      have hb : St w0 S0 _ (L ++ [BlkR wr.heap.size 41 #[.int .i64 s, .int .u64 g, .int .i64 f, .int .i64 m]]) := sr.box 41 #[.int .i64 s, .int .u64 g, .int .i64 f, .int .i64 m]
      obtain ⟨cb, hcb⟩ : ∃ cb, wr.heap.size = cb := ⟨_, rfl⟩
      rw [hcb] at hb
      have hi2 : (L ++ [BlkR cb 41 #[.int .i64 s, .int .u64 g, .int .i64 f, .int .i64 m]])[i]? = some (po.PoolR p n st) := by
        rw [List.getElem?_append_left (List.getElem?_eq_some_iff.1 HI.out).1]; exact HI.out
      have hlast : (L ++ [BlkR cb 41 #[.int .i64 s, .int .u64 g, .int .i64 f, .int .i64 m]])[L.length]? = some (BlkR cb 41 #[.int .i64 s, .int .u64 g, .int .i64 f, .int .i64 m]) := by simp
      obtain ⟨pp, hpp⟩ : ∃ pp : World → Prop, pp = fun W => St w0 S0 W (L ++ [BlkR cb 41 #[.int .i64 s, .int .u64 g, .int .i64 f, .int .i64 m]]) := ⟨_, rfl⟩
      have CE := Lib.hid (show ∀ u : Within pp, u.w.cell? ⟨cb, 0, none⟩ = some (.int .i64 s) ∧ u.w.cell? ⟨cb, 1, none⟩ = some (.int .u64 g) ∧ u.w.cell? ⟨cb, 2, none⟩ = some (.int .i64 f) ∧ u.w.cell? ⟨cb, 3, none⟩ = some (.int .i64 m) from fun u => by have K : St w0 S0 u.w (L ++ [BlkR cb 41 #[.int .i64 s, .int .u64 g, .int .i64 f, .int .i64 m]]) := Eq.mp (congrFun hpp u.w) u.h; exact (K.blk L.length hlast).four)
      have FIN := Lib.hid (show ∀ W, pp W → St w0 S0 W L from fun W K => by rw [hpp] at K; have := K.take L.length; simpa using this)
      have K1 := Lib.hid (show ∀ W, pp W → Calls Tryz.prog 142 #[.pointer (some ⟨p, 0, none⟩), .agg #[.int .i64 s, .int .u64 g, .int .i64 f, .int .i64 m]] W fun e w' => e = .returned (.bool fb) ∧ pp w' from fun W K => by rw [hpp] at K ⊢; have h := fits_o (f := f) (m := m) K i hi2 ok HZ.out; rw [HFB.out] at h; exact h)
      have K2 := Lib.hid (show ∀ W, pp W → Calls Tryz.prog 143 #[.agg #[.int .i64 s, .int .u64 g, .int .i64 f, .int .i64 m], .slice (some ⟨ib, off, none⟩) 0 cp] W fun e w' => e = .returned (.bool false) ∧ pp w' from fun W K => (meets_0 W _ _ _ _ _ _).mono fun e w' ⟨he, hb⟩ => ⟨he, by rw [hpp] at K ⊢; exact K.stay hb⟩)
      have HP := Lib.hid (show pp _ by rw [hpp]; exact hb.drew)
      haveI : Nonempty (Within pp) := ⟨⟨_, HP.out⟩⟩
      obtain ⟨a0, a1, a2, a3⟩ := (hb.blk L.length hlast).four
      have f0 := fun u => (CE.out u).1
      have f1 := fun u => (CE.out u).2.1
      have f2 := fun u => (CE.out u).2.2.1
      have f3 := fun u => (CE.out u).2.2.2
      clear hc sr hb hi2 hlast CE hpp
      cases fb with
      | true =>
        go_wp2_with fail
        refine wp_region_in pp (by kernel_rfl) (by kernel_rfl) HP.out ?_
        repeat (go_big_quiet_step ((first | (go_at_call 142; exact in_call (p := pp) (K1.out _ (Within.h (p := pp) _))) | (go_at_call 143; exact in_call (p := pp) (K2.out _ (Within.h (p := pp) _))))))
        refine wpQuiet_nil ?_
        rintro _ ⟨⟨wq, sq⟩, rfl⟩
        have SQ := Lib.hid (FIN.out _ sq)
        clear sq
        go_wp2_with fail
        go_roundw
        case rel => exact ⟨1, Or.inr ⟨rfl, by first | rfl | trivial⟩, rfl, SQ.out⟩
        case measure => simp [intOf]
      | false =>
        go_wp2_with fail
        refine wp_region_in pp (by kernel_rfl) (by kernel_rfl) HP.out ?_
        repeat (go_big_quiet_step ((first | (go_at_call 142; exact in_call (p := pp) (K1.out _ (Within.h (p := pp) _))))))
        refine wpQuiet_nil ?_
        rintro _ ⟨⟨wq, sq⟩, rfl⟩
        have SQ := Lib.hid (FIN.out _ sq)
        clear sq
        go_wp2_with fail
        go_ret
        exact ⟨rfl, SQ.out⟩
    · have SR := Lib.hid sr
      clear sr
      go_wp2_with fail
      go_ret
      exact ⟨rfl, SR.out⟩
end
end Go.Proofs.YtdjhpdacglojaaaGreat
