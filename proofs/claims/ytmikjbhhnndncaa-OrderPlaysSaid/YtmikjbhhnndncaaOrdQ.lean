/- Layer 18: the document's 'next'. -/
import Derived.Test.YtmikjbhhnndncaaOrdP
import Derived.Deep.RegionHeld3
namespace Go.Proofs.Ytmikjbhhnndncaa
open Go.RowKit
set_option linter.unusedVariables false
set_option maxRecDepth 100000
set_option maxHeartbeats 4000000
def fD1 (l : List Wt) (k : Nat) : Int := fD l (if k = 0 then 1 else k)
section
variable {w0 w w' : World} {S0 S : Nat → Prop} {N L : List Res} {q : Nat} {s s' : OSt}
/-- Where the next one stands, and whether the head goes down then. -/
def RNextP (s : OSt) (z : Int) (b : Bool) : Prop := ∃ x up f, NextP s x up f ∧ ((f = 5 ∧ z = -1 ∧ b = false) ∨ (f = 0 ∧ b = (!up) ∧ ∃ i : Nat, z = (i : Int) ∧ s.l[i]? = some x))
theorem rNext_c {r : Nat} (h : RQR r s w S) (hs : s.ok) : Calls Try.prog 20 #[.pointer (some ⟨r, 0, none⟩)] w fun e w' => ∃ z b, e = .returned (.tuple #[.int .i64 z, .bool b]) ∧ RNextP s z b ∧ Below w.heap.size w w' := by
  obtain ⟨A, c, hh⟩ := h
  have s0 : St w S w (RQL r A c s) := St.start hh
  have HS := Lib.hid hs
  obtain ⟨n, hn⟩ : ∃ n, s.l.length = n := ⟨_, rfl⟩
  have HN := Lib.hid hn
  obtain ⟨dn, hdn⟩ : ∃ dn, dn = (!s.up) := ⟨_, rfl⟩
  have HDN := Lib.hid hdn
  have hn64 : n ≤ 64 := by have := hs.len; omega
  have s1 : St w S w [BlkR r 29 #[.slice A n c, .int .i64 s.head, .bool dn], LisR 32 3 (.slice A n c) n (ovs s.l)] := by rw [← hn, hdn]; exact s0
  have HH := Lib.hid s1
  obtain ⟨q0, q1, q2⟩ := (s1.blk 0 rfl).three
  clear hh s0 hs hn hdn
  by_cases hz : n = 0
  · subst hz
    have HP := Lib.hid (show RNextP s (-1) false from ⟨_, _, _, Or.inl ⟨List.eq_nil_of_length_eq_zero HN.out, rfl, rfl, rfl⟩, Or.inl ⟨rfl, rfl, rfl⟩⟩)
    clear s1
    go_enter Try.func20, Try.ntmps20
    go_wp2_with fail
    refine bodyPost_ret (v := .tuple #[.int .i64 (-1), .bool false]) ?_ rfl ⟨_, _, rfl, HP.out, Below.refl _ _⟩
    simp [results, go_sem]
  have z0 : ((n : Int) == 0) = false := beq_eq_false_iff_ne.2 (by omega)
  have hn0 : 0 < n := by omega
  obtain ⟨x, hx⟩ : ∃ x, s.l[0]? = some x := ⟨_, List.getElem?_eq_getElem (by rw [HN.out]; exact hn0)⟩
  have F0 := Lib.hid (show x.dead = fD1 s.l 0 from by
    unfold fD1
    rw [if_pos rfl, fD_succ hx, fD_zero]
    have := (HS.out.may x (List.mem_of_getElem? hx)).2.1
    rw [if_pos this.2])
  obtain ⟨b, o, rfl, -, m0, m1, m2⟩ := want_at (s1.lis 1 rfl) hx
  rw [Nat.zero_mul, Nat.add_zero] at m1
  clear s1 m0 m2 hx
  go_enter Try.func20, Try.ntmps20
  go_wp2_with fail
  go_loopw [4, 5] (fun m t wr => ∃ k : Nat, k ≤ n ∧ t = .int .i64 (k : Int) ∧ m = .int .u64 (fD1 s.l k) ∧ Below w.heap.size w wr) (fun _ t _ => n - (intOf t).toNat)
  case atStart => exact ⟨0, by omega, rfl, by rw [F0.out], Below.refl _ _⟩
  case round =>
  clear q0 q1 q2 m1 F0
  obtain ⟨k, hk, rfl, rfl, hb⟩ := hrel
  have sr := HH.out.stay hb
  obtain ⟨q0, q1, q2⟩ := (sr.blk 0 rfl).three
  have HB := Lib.hid hb
  by_cases hkn : k < n
  · obtain ⟨y, hy⟩ : ∃ y, s.l[k]? = some y := ⟨_, List.getElem?_eq_getElem (by rw [HN.out]; exact hkn)⟩
    obtain ⟨b', o', he, -, m0, m1, m2⟩ := want_at (sr.lis 1 rfl) hy
    obtain ⟨rfl, rfl⟩ : b = b' ∧ o = o' := by simpa using he
    have t1 : decide ((k : Int) < (n : Int)) = true := decide_eq_true (by omega)
    have t1' : decide (k < n) = true := decide_eq_true hkn
    have HF := Lib.hid (show fD1 s.l (k + 1) = if y.dead < fD1 s.l k then y.dead else fD1 s.l k from by
      unfold fD1
      rw [if_neg (by omega), fD_succ hy]
      by_cases h0 : k = 0
      · subst h0
        rw [if_pos rfl, fD_succ hy, fD_zero]
        have := (HS.out.may y (List.mem_of_getElem? hy)).2.1
        rw [if_pos this.2, if_neg (by omega)]
      · rw [if_neg h0])
    obtain ⟨D, hD⟩ : ∃ D, D = fD1 s.l k := ⟨_, rfl⟩
    rw [← hD] at HF ⊢
    clear sr hb hy he hD
    by_cases hlt : y.dead < D
    · have d1 : decide (y.dead < D) = true := decide_eq_true hlt
      have HE := Lib.hid (show y.dead = fD1 s.l (k + 1) from by rw [HF.out, if_pos hlt])
      clear hlt HF
      go_wp2_with fail
      go_roundw
      case rel => exact ⟨k + 1, by omega, by go_num, by rw [HE.out], HB.out⟩
      case measure => simp [intOf]; omega
    · have d1 : decide (y.dead < D) = false := decide_eq_false hlt
      have HE := Lib.hid (show D = fD1 s.l (k + 1) from by rw [HF.out, if_neg hlt])
      clear hlt HF
      go_wp2_with fail
      go_roundw
      case rel => exact ⟨k + 1, by omega, by go_num, by rw [HE.out], HB.out⟩
      case measure => simp [intOf]; omega
  · have t1 : decide ((k : Int) < (n : Int)) = false := decide_eq_false (by omega)
    have t1' : decide (k < n) = false := decide_eq_false hkn
    obtain rfl : k = n := by omega
    obtain ⟨D, hD⟩ : ∃ D, D = fD1 s.l k := ⟨_, rfl⟩
    have hDF : D = firstD s.l := by rw [hD]; unfold fD1; rw [if_neg hz, ← HN.out, fD_all]
    rw [← hD]
    clear hD
    have PC := Lib.hid (pick_c sr 0 HN.out.symm rfl 1 rfl HS.out dn hDF)
    have HDF := Lib.hid hDF
    clear sr hb hDF
    go_wp2_with fail
    refine PC.out.mono ?_
    rintro e w2 ⟨z, ro, rfl, hnr, hpz, hb2⟩
    have s2 := (HH.out.stay HB.out).stay hb2
    have HB2 := Lib.hid (HB.out.trans (show Below w.heap.size wr w2 from ⟨hb2.os, hb2.tape, hb2.output, hb2.size, fun k hk => hb2.block k (Nat.lt_of_lt_of_le hk HB.out.size)⟩))
    obtain ⟨p0, p1, p2⟩ := (s2.blk 0 rfl).three
    have hup : (!dn) = s.up := by rw [HDN.out]; simp
    rw [hup, ← HN.out] at hnr
    clear q0 q1 q2 PC hb2
    rcases hpz with ⟨rfl, rfl⟩ | ⟨i, y, rfl, rfl, hy⟩
    case inr =>
      have HP := Lib.hid (show RNextP s (i : Int) dn from ⟨y, s.up, 0, Or.inr (Or.inl ⟨hnr, rfl, rfl⟩), Or.inr ⟨rfl, HDN.out, i, rfl, hy⟩⟩)
      have y1 : decide ((0 : Int) ≤ (i : Int)) = true := decide_eq_true (by omega)
      clear hnr hy s2 hup
      go_wp2_with fail
      go_quiet (fail)
      go_wp2_with fail
      refine bodyPost_ret (v := .tuple #[.int .i64 (i : Int), .bool dn]) ?_ rfl ⟨_, _, rfl, HP.out, by first | exact HB2.out | exact below_drewN HB2.out _⟩
      simp [results, go_sem]
    case inl =>
      have TELL := Lib.hid (show ∀ z ro, NearP s (!(!dn)) k ro → PickZ s.l ro z → RNextP s z (!dn) from fun z ro h1 h2 => by
        obtain ⟨x', up, f, hNx⟩ := nextP_ex HS.out
        have hNx0 := hNx
        rw [Bool.not_not, HDN.out, ← HN.out] at h1
        rcases hNx with ⟨h, _⟩ | ⟨h, _⟩ | ⟨_, h, hu, hf⟩
        · have := HN.out
          rw [h] at this
          exact absurd this.symm hz
        · have := NearP.uniq HS.out hnr h
          cases this
        · have := NearP.uniq HS.out h1 h
          subst this
          rcases h2 with ⟨h2, _⟩ | ⟨i, y, h2, h3, h4⟩
          · cases h2
          · injection h2 with h2
            subst h2
            exact ⟨_, _, _, hNx0, Or.inr ⟨hf, by rw [hu, HDN.out], i, h3, h4⟩⟩)
      have PC2 := Lib.hid (pick_c s2.drew 0 HN.out.symm rfl 1 rfl HS.out (!dn) HDF.out)
      have S2 := Lib.hid s2
      clear hnr s2 hup p0 p1
      go_wp2_with fail
      go_region_held3 (fun W => W.cell? ⟨r, 2, none⟩ = some (.bool dn)) (go_keep)
        (first
          | (go_at_call 31; refine PC2.out.mono ?_; rintro r' w6 ⟨z2, ro2, rfl, hnr2, hpz2, hb6⟩; have HP := Lib.hid (TELL.out z2 ro2 hnr2 hpz2); have q6 := ((S2.out.drew.stay hb6).blk 0 rfl).three.2.2; have HB6 := Lib.hid (HB2.out.drew.trans (show Below w.heap.size w2.drew w6 from ⟨hb6.os, hb6.tape, hb6.output, hb6.size, fun k hk => hb6.block k (Nat.lt_of_lt_of_le hk HB2.out.drew.size)⟩)); clear hnr2 hpz2 hb6))
      go_wp2_with fail
      refine bodyPost_ret (v := .tuple #[.int .i64 z2, .bool (!dn)]) ?_ rfl ⟨_, _, rfl, HP.out, HB6.out⟩
      simp [results, go_sem]
end
end Go.Proofs.Ytmikjbhhnndncaa
