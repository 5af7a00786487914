/- Layer 8: whether a piece fits; whether a list of one piece may be. -/
import Derived.Test.YtiaojhjghededaaPieM
import Derived.Test.YtiaojhjghededaaMore
import Derived.Deep.QuietTactic
import Derived.BigQuiet
import Derived.Deep.RegionHeld3
namespace Go.Proofs.Ytiaojhjghededaa
open Go.RowKit
set_option linter.unusedVariables false
set_option maxRecDepth 100000
set_option maxHeartbeats 4000000
section
variable {w0 w w' : World} {S0 : Nat → Prop} {L : List Res} {p n : Nat} {st : Nat → Buf} {G : Int} {s g f m z c : Int}
/-- A piece that fits. -/
def fitB (z c f m : Int) : Bool := decide (c = 0 ∧ 0 ≤ f ∧ f ≤ z ∧ 1 ≤ m ∧ m ≤ z - f)
theorem sizeP_z (ok : POK n st G) (h : SizeP n st s g z c) : 0 ≤ z ∧ z ≤ 65536 ∧ (c = 0 ∨ c = 3) := by
  rcases h with ⟨_, rfl, rfl⟩ | ⟨i, hi, _, _, _, rfl, rfl⟩
  · exact ⟨by omega, by omega, Or.inr rfl⟩
  · have := (ok.b i hi).2.2.2
    exact ⟨by omega, by omega, Or.inl rfl⟩
theorem fits_o (H : St w0 S0 w L) (i : Nat) (hi : L[i]? = some (PoolR p n st)) (ok : POK n st G) (hz : SizeP n st s g z c) :
    Calls Try.prog 23 #[.pointer (some ⟨p, 0, none⟩), .agg #[.int .i64 s, .int .u64 g, .int .i64 f, .int .i64 m]] w fun e w' => e = .returned (.bool (fitB z c f m)) ∧ St w0 S0 w' L := by
  obtain ⟨z0, z1, hc⟩ := sizeP_z ok hz
  have hb := H.box 42 #[.int .i64 s, .int .u64 g, .int .i64 f, .int .i64 m]
  have hi2 : (L ++ [BlkR w.heap.size 42 #[.int .i64 s, .int .u64 g, .int .i64 f, .int .i64 m]])[i]? = some (PoolR p n st) := by
    rw [List.getElem?_append_left (List.getElem?_eq_some_iff.1 hi).1]; exact hi
  have K1 := Lib.hid (size_o hb i hi2 ok hz)
  rw [set_same hi2] at K1
  have hlast : (L ++ [BlkR w.heap.size 42 #[.int .i64 s, .int .u64 g, .int .i64 f, .int .i64 m]])[L.length]? = some (BlkR w.heap.size 42 #[.int .i64 s, .int .u64 g, .int .i64 f, .int .i64 m]) := by simp
  have CE := Lib.hid (fun (W : World) (K : St w0 S0 W (L ++ [BlkR w.heap.size 42 #[.int .i64 s, .int .u64 g, .int .i64 f, .int .i64 m]])) => (K.blk L.length hlast).four)
  have FIN := Lib.hid (fun (W : World) (K : St w0 S0 W (L ++ [BlkR w.heap.size 42 #[.int .i64 s, .int .u64 g, .int .i64 f, .int .i64 m]])) => show St w0 S0 W L from by have := K.take L.length; simpa using this)
  obtain ⟨a0, a1, a2, a3⟩ := CE.out _ hb
  obtain ⟨fb, hfb⟩ : ∃ fb, fitB z c f m = fb := ⟨_, rfl⟩
  rw [hfb]
  have HFB := Lib.hid hfb
  clear hb hi hi2 hlast hz H hfb
  go_enter Try.func23, Try.ntmps23
  go_wp2_with fail
  refine K1.out.mono ?_
  rintro e w1 ⟨rfl, s1⟩
  obtain ⟨b0, b1, b2, b3⟩ := CE.out _ s1
  have F1 := Lib.hid (FIN.out _ s1)
  clear s1 K1 a0 a1 a2 a3 CE FIN
  by_cases h1 : c = 0
  · have t1 : (c == 0) = true := beq_iff_eq.2 h1
    by_cases h2 : 0 ≤ f
    · have t2 : decide (0 ≤ f) = true := decide_eq_true h2
      by_cases h3 : f ≤ z
      · have t3 : decide (f ≤ z) = true := decide_eq_true h3
        have tw : IntKind.i64.wrap (z - f) = z - f := IntWalk.i64_in _ ⟨by omega, by omega⟩
        by_cases h4 : 1 ≤ m
        · have t4 : decide (1 ≤ m) = true := decide_eq_true h4
          by_cases h5 : m ≤ z - f
          · have t5 : decide (m ≤ z - f) = true := decide_eq_true h5
            obtain rfl : fb = true := HFB.out.symm.trans (decide_eq_true ⟨h1, h2, h3, h4, h5⟩)
            clear h1 h2 h3 h4 h5
            go_wp2_with fail
            go_ret
            exact ⟨rfl, F1.out⟩
          · have t5 : decide (m ≤ z - f) = false := decide_eq_false h5
            obtain rfl : fb = false := HFB.out.symm.trans (decide_eq_false fun h => h5 h.2.2.2.2)
            clear h1 h2 h3 h4 h5
            go_wp2_with fail
            go_ret
            exact ⟨rfl, F1.out⟩
        · have t4 : decide (1 ≤ m) = false := decide_eq_false h4
          obtain rfl : fb = false := HFB.out.symm.trans (decide_eq_false fun h => h4 h.2.2.2.1)
          clear h1 h2 h3 h4
          go_wp2_with fail
          go_ret
          exact ⟨rfl, F1.out⟩
      · have t3 : decide (f ≤ z) = false := decide_eq_false h3
        obtain rfl : fb = false := HFB.out.symm.trans (decide_eq_false fun h => h3 h.2.2.1)
        clear h1 h2 h3
        go_wp2_with fail
        go_ret
        exact ⟨rfl, F1.out⟩
    · have t2 : decide (0 ≤ f) = false := decide_eq_false h2
      obtain rfl : fb = false := HFB.out.symm.trans (decide_eq_false fun h => h2 h.2.1)
      clear h1 h2
      go_wp2_with fail
      go_ret
      exact ⟨rfl, F1.out⟩
  · have t1 : (c == 0) = false := beq_eq_false_iff_ne.2 h1
    obtain rfl : fb = false := HFB.out.symm.trans (decide_eq_false fun h => h1 h.1)
    clear h1
    go_wp2_with fail
    go_ret
    exact ⟨rfl, F1.out⟩
end
def zO : Option Nat → Int
  | none => 0
  | some z => (z : Int)
def cO : Option Nat → Int
  | none => 3
  | some _ => 0
theorem sizeP_zO (n : Nat) (st : Nat → Buf) (s g : Int) : SizeP n st s g (zO (szB n st s g)) (cO (szB n st s g)) := by
  have := sizeP_of n st s g
  cases h : szB n st s g with
  | none => rw [h] at this; exact this
  | some z => rw [h] at this; exact this
theorem fitP_B (n : Nat) (st : Nat → Buf) (p : Pc) : fitB (zO (szB n st p.s p.g)) (cO (szB n st p.s p.g)) p.f p.m = fitP n st p := by
  unfold fitB fitP
  cases szB n st p.s p.g with
  | none => exact decide_eq_false (fun h => by have h1 : (3 : Int) = 0 := h.1; omega)
  | some z => exact decide_eq_decide.2 ⟨fun h => h.2, fun h => ⟨rfl, h⟩⟩
section
variable {w0 w : World} {S0 : Nat → Prop} {L : List Res} {p n : Nat} {st : Nat → Buf} {G : Int}
theorem fitp_o (H : St w0 S0 w L) (i : Nat) (hi : L[i]? = some (PoolR p n st)) (ok : POK n st G) (c : Pc) :
    Calls Try.prog 23 #[.pointer (some ⟨p, 0, none⟩), .agg #[.int .i64 c.s, .int .u64 c.g, .int .i64 c.f, .int .i64 c.m]] w fun e w' => e = .returned (.bool (fitP n st c)) ∧ St w0 S0 w' L := by
  have := fits_o (f := c.f) (m := c.m) H i hi ok (sizeP_zO n st c.s c.g)
  rw [fitP_B] at this
  exact this
end
/-- Small enough that no sum wraps. -/
def Pc.sm (p : Pc) : Prop := (0 ≤ p.f ∧ p.f ≤ 65536) ∧ (0 ≤ p.m ∧ p.m ≤ 65536)
theorem meets_o (c : Pc) (hc : c.sm) (A : Option Addr) (cap : Nat) (os : List Pc) (hos : ∀ o ∈ os, o.sm) (hlen : os.length ≤ 1000) (w : World) (hR : RdP w A os) :
    Calls Try.prog 24 #[.agg #[.int .i64 c.s, .int .u64 c.g, .int .i64 c.f, .int .i64 c.m], .slice A os.length cap] w fun e w' => e = .returned (.bool (os.any (meetP c))) ∧ Below w.heap.size w w' := by
  obtain ⟨B, hBe⟩ : ∃ B, os.any (meetP c) = B := ⟨_, rfl⟩
  rw [hBe]
  have HBE := Lib.hid hBe
  clear hBe
  have hb := (St.begin w).box 42 #[.int .i64 c.s, .int .u64 c.g, .int .i64 c.f, .int .i64 c.m]
  obtain ⟨a, ha⟩ : ∃ a, w.heap.size = a := ⟨_, rfl⟩
  rw [ha] at hb
  have HB := Lib.hid hb
  have HR := Lib.hid hR
  have HOS := Lib.hid hos
  obtain ⟨⟨c1, c2⟩, c3, c4⟩ := hc
  clear hb hR hos
  go_enter Try.func24, Try.ntmps24
  go_wp2
  go_loopw [6, 9] (fun _ x9 wr => ∃ k : Nat, k ≤ os.length ∧ x9 = .int .i64 (k : Int) ∧ (os.take k).any (meetP c) = false ∧ St w None wr [BlkR a 42 #[.int .i64 c.s, .int .u64 c.g, .int .i64 c.f, .int .i64 c.m]]) (fun _ x9 _ => os.length - (intOf x9).toNat)
  case atStart => exact ⟨0, Nat.zero_le _, rfl, rfl, HB.out⟩
  case round =>
  obtain ⟨k, hk, rfl, hany, hst⟩ := hrel
  by_cases hlt : k < os.length
  rotate_left 1
  · obtain rfl : k = os.length := by omega
    have z0 : decide ((os.length : Int) < (os.length : Int)) = false := decide_eq_false (by omega)
    rw [List.take_length] at hany
    obtain rfl : B = false := HBE.out.symm.trans hany
    have HST := Lib.hid hst
    clear hst
    go_wp2
    go_ret
    exact ⟨rfl, HST.out.below⟩
  obtain ⟨o, ho⟩ : ∃ o, os[k]? = some o := ⟨os[k]'hlt, List.getElem?_eq_getElem hlt⟩
  have hom : o ∈ os := List.mem_of_getElem? ho
  obtain ⟨⟨o1, o2⟩, o3, o4⟩ := HOS.out o hom
  obtain ⟨g, off, hA, hg, d0, d1, d2, d3⟩ := (HR.out.on hst.below) k o ho
  subst hA
  have z0 : decide ((k : Int) < (os.length : Int)) = true := decide_eq_true (by omega)
  have e1 : os.take (k + 1) = os.take k ++ [o] := by rw [List.take_add_one, ho]; rfl
  have w1 : IntKind.i64.wrap (c.f + c.m) = c.f + c.m := IntWalk.i64_in _ ⟨by omega, by omega⟩
  have w2 : IntKind.i64.wrap (o.f + o.m) = o.f + o.m := IntWalk.i64_in _ ⟨by omega, by omega⟩
  have w3 : wrap64 (c.f + c.m) = c.f + c.m := IntWalk.wrap64_in _ ⟨by omega, by omega⟩
  have w4 : wrap64 (o.f + o.m) = o.f + o.m := IntWalk.wrap64_in _ ⟨by omega, by omega⟩
  have HST := Lib.hid (hst.alloc (.cells #[.int .i64 o.s, .int .u64 o.g, .int .i64 o.f, .int .i64 o.m] 42))
  clear hst
  obtain ⟨p0, p1, p2, p3⟩ := (HST.out.blk 0 rfl).four
  cases hm : meetP c o with
  | true =>
    have hm2 := of_decide_eq_true hm
    obtain ⟨m1, m2, m3, m4⟩ := hm2
    obtain rfl : B = true := HBE.out.symm.trans (List.any_eq_true.2 ⟨o, hom, hm⟩)
    have z1 : (o.s == c.s) = true := beq_iff_eq.2 m1
    have z2 : (o.g == c.g) = true := beq_iff_eq.2 m2
    have z3 : decide (o.f < c.f + c.m) = true := decide_eq_true m3
    have z4 : decide (c.f < o.f + o.m) = true := decide_eq_true m4
    clear hm hany e1 m1 m2 m3 m4
    go_wp2
    go_ret
    exact ⟨rfl, HST.out.below⟩
  | false =>
    have hm2 := of_decide_eq_false hm
    have hN : (os.take (k + 1)).any (meetP c) = false := by rw [e1, List.any_append, hany]; simp [hm]
    have HN := Lib.hid hN
    clear hany hN e1 hm
    have ways : ((o.s == c.s) = false) ∨ ((o.s == c.s) = true ∧ (o.g == c.g) = false) ∨ ((o.s == c.s) = true ∧ (o.g == c.g) = true ∧ decide (o.f < c.f + c.m) = false) ∨ ((o.s == c.s) = true ∧ (o.g == c.g) = true ∧ decide (o.f < c.f + c.m) = true ∧ decide (c.f < o.f + o.m) = false) := by
      by_cases h1 : o.s = c.s
      · by_cases h2 : o.g = c.g
        · by_cases h3 : o.f < c.f + c.m
          · exact Or.inr (Or.inr (Or.inr ⟨beq_iff_eq.2 h1, beq_iff_eq.2 h2, decide_eq_true h3, decide_eq_false fun h4 => hm2 ⟨h1, h2, h3, h4⟩⟩))
          · exact Or.inr (Or.inr (Or.inl ⟨beq_iff_eq.2 h1, beq_iff_eq.2 h2, decide_eq_false h3⟩))
        · exact Or.inr (Or.inl ⟨beq_iff_eq.2 h1, beq_eq_false_iff_ne.2 h2⟩)
      · exact Or.inl (beq_eq_false_iff_ne.2 h1)
    clear hm2
    rcases ways with z1 | ⟨z1, z2⟩ | ⟨z1, z2, z3⟩ | ⟨z1, z2, z3, z4⟩ <;> (
      go_wp2
      go_roundw
      case rel => exact ⟨k + 1, by omega, by go_num, HN.out, HST.out⟩
      case measure => simp [intOf]; omega)
end Go.Proofs.Ytiaojhjghededaa
