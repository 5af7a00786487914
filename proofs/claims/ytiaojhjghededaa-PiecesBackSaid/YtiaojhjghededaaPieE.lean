/- Layer 8: whose the buffers are. -/
import Derived.Test.YtiaojhjghededaaPieD
namespace Go.Proofs.Ytiaojhjghededaa
open Go.RowKit
set_option linter.unusedVariables false
set_option maxRecDepth 100000
set_option maxHeartbeats 4000000
def liveB (n : Nat) (st : Nat → Buf) (s g : Int) : Bool := decide (0 ≤ s ∧ s < n ∧ (st s.toNat).owner ≠ 0 ∧ (st s.toNat).gen = g)
/-- Whose a buffer is; 0: nobody's. -/
def ownV (n : Nat) (st : Nat → Buf) (s g : Int) : Int := if liveB n st s g = true then (st s.toNat).owner else 0
def refV (n : Nat) (st : Nat → Buf) (s g : Int) : Int := if liveB n st s g = true then (st s.toNat).refs else 0
def codV (n : Nat) (st : Nat → Buf) (s g : Int) : Int := if liveB n st s g = true then 0 else 3
theorem ownerP_V (n : Nat) (st : Nat → Buf) (s g : Int) : OwnerP n st s g (ownV n st s g) (refV n st s g) (codV n st s g) := by
  unfold ownV refV codV
  cases h : liveB n st s g with
  | true =>
    have h2 := of_decide_eq_true h
    exact Or.inr ⟨s.toNat, by omega, by omega, h2.2.2.1, h2.2.2.2, rfl, rfl, rfl⟩
  | false =>
    have h2 := of_decide_eq_false h
    refine Or.inl ⟨fun hl => h2 ?_, rfl, rfl, rfl⟩
    obtain ⟨⟨a, b⟩, c, d⟩ := hl
    exact ⟨a, b, c, d⟩
def ownsP (n : Nat) (st : Nat → Buf) (who : Int) (l : List (Int × Int)) : Bool := l.all fun x => ownV n st x.1 x.2 == who
section
variable {w0 w : World} {S0 : Nat → Prop} {L : List Res} {p n : Nat} {st : Nat → Buf} {G : Int}
theorem owns_o8 (H : St w0 S0 w L) (i : Nat) (hi : L[i]? = some (PoolR p n st)) (ok : POK n st G) (A : Option Addr) (cap : Nat) (ps : List Pc) (hlen : ps.length ≤ 1000) (hwf : ∀ q ∈ ps, q.wf) (hR : RdP w0 A ps) (hN : notIn A S0) (who : Int) :
    Calls Try.prog 25 #[.pointer (some ⟨p, 0, none⟩), .slice A ps.length cap, .int .i64 who] w fun e w' => e = .returned (.bool (ownsP n st who (bufsP ps))) ∧ St w0 S0 w' L := by
  have KB := Lib.hid (bufs_o A cap ps hwf hlen w (H.rdp hR hN))
  have hbl := bufs_len ps
  obtain ⟨F, hF⟩ : ∃ F, bufsP ps = F := ⟨_, rfl⟩
  rw [hF] at KB hbl ⊢
  obtain ⟨B, hBe⟩ : ∃ B, ownsP n st who F = B := ⟨_, rfl⟩
  rw [hBe]
  have HBE := Lib.hid hBe
  have HH := Lib.hid H
  have HOK := Lib.hid ok
  have HI := Lib.hid hi
  clear hBe H ok hi hR hN hwf hF
  go_enter Try.func25, Try.ntmps25
  go_wp2_with fail
  refine KB.out.mono ?_
  rintro e w1 ⟨C, cc, rfl, k1⟩
  have s1 := HH.out.join k1
  have HS1 := Lib.hid s1
  clear k1 s1
  go_wp2
  go_loopw [8, 9, 10, 11, 15] (fun _ _ _ _ x15 wr => ∃ k : Nat, k ≤ F.length ∧ x15 = .int .i64 (k : Int) ∧ ownsP n st who (F.take k) = true ∧ St w0 S0 wr (L ++ [LisR 40 2 (.slice C F.length cc) F.length (hCs F)])) (fun _ _ _ _ x15 _ => F.length - (intOf x15).toNat)
  case atStart => exact ⟨0, Nat.zero_le _, rfl, rfl, HS1.out⟩
  case round =>
  obtain ⟨k, hk, rfl, hall, hst⟩ := hrel
  by_cases hlt : k < F.length
  rotate_left 1
  · obtain rfl : k = F.length := by omega
    have z0 : decide ((F.length : Int) < (F.length : Int)) = false := decide_eq_false (by omega)
    rw [List.take_length] at hall
    obtain rfl : B = true := HBE.out.symm.trans hall
    have HST := Lib.hid (show St w0 S0 _ L from by have := hst.take L.length; simpa using this)
    clear hst hall
    go_wp2
    go_ret
    exact ⟨rfl, HST.out⟩
  obtain ⟨x, hx⟩ : ∃ x, F[k]? = some x := ⟨F[k]'hlt, List.getElem?_eq_getElem hlt⟩
  have hlast : (L ++ [LisR 40 2 (.slice C F.length cc) F.length (hCs F)])[L.length]? = some (LisR 40 2 (.slice C F.length cc) F.length (hCs F)) := by simp
  obtain ⟨A', cap', ev, v1, v2, v3, v4⟩ := hst.lis_cells L.length hlast
  injection ev with ev1 ev2 ev3
  subst ev1; subst ev3
  rcases v4 with v4 | ⟨g, off, rfl, hcs⟩
  · omega
  obtain ⟨y0, y1⟩ := hCs_get hx
  have d0 := hcs _ _ y0
  have d1 := hcs _ _ y1
  rw [← Nat.add_assoc] at d1
  have z0 : decide ((k : Int) < (F.length : Int)) = true := decide_eq_true (by omega)
  have hst2 := hst.alloc (.cells #[.int .i64 x.1, .int .u64 x.2] 40)
  have hiB : (L ++ [LisR 40 2 (.slice (some ⟨g, off, none⟩) F.length cc) F.length (hCs F)])[i]? = some (PoolR p n st) := by
    rw [List.getElem?_append_left (List.getElem?_eq_some_iff.1 HI.out).1]; exact HI.out
  have KO := owner_o hst2 i hiB HOK.out (ownerP_V n st x.1 x.2)
  rw [set_same' hiB] at KO
  replace KO := Lib.hid KO
  have e1 : ownsP n st who (F.take (k + 1)) = (ownsP n st who (F.take k) && (ownV n st x.1 x.2 == who)) := by
    unfold ownsP
    rw [List.take_add_one, hx, List.all_append]
    simp
  rw [hall, Bool.true_and] at e1
  have HE1 := Lib.hid e1
  have HX := Lib.hid hx
  clear hst hst2 hiB hlast hcs y0 y1 e1 hall hx
  cases ho : (ownV n st x.1 x.2 == who) with
  | true =>
    rw [ho] at HE1
    have ho2 : (ownV n st x.1 x.2 != who) = false := by unfold bne; rw [ho]; rfl
    go_wp2_with fail
    refine KO.out.mono ?_
    rintro e w2 ⟨rfl, s2⟩
    have S2 := Lib.hid s2
    clear s2
    go_wp2
    go_roundw
    case rel => exact ⟨k + 1, by omega, by go_num, HE1.out, S2.out⟩
    case measure => simp [intOf]; omega
  | false =>
    have ho2 : (ownV n st x.1 x.2 != who) = true := by unfold bne; rw [ho]; rfl
    obtain rfl : B = false := HBE.out.symm.trans (by
      unfold ownsP
      exact List.all_eq_false.2 ⟨x, List.mem_of_getElem? HX.out, by rw [ho]; simp⟩)
    go_wp2_with fail
    refine KO.out.mono ?_
    rintro e w2 ⟨rfl, s2⟩
    have S2 := Lib.hid (show St w0 S0 _ L from by have := s2.take L.length; simpa using this)
    clear s2
    go_wp2
    go_ret
    exact ⟨rfl, S2.out⟩
end
end Go.Proofs.Ytiaojhjghededaa
