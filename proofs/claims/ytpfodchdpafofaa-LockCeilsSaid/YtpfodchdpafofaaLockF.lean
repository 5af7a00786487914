/- Layer 23: a lock is given back; urgencies; what is held; who is known. -/
import Derived.Test.YtpfodchdpafofaaLockE
namespace Go.Proofs.Ytpfodchdpafofaa
open Go.RowKit
set_option linter.unusedVariables false
set_option maxRecDepth 100000
set_option maxHeartbeats 2000000
section
variable {w0 w w' : World} {S0 S : Nat → Prop} {B L : List Res} {k c b N : Nat} {A : Option Addr} {ptr : Nat → Nat} {s s' : KS}
theorem backf_c (H : St w0 S0 w (B ++ (KA k A c b N ptr s ++ KF s ptr))) (hs : s.ok) {i y : Nat} {p1 : Nat}
    (e1 : w.cell? ⟨p1, 0, none⟩ = some (.int .i64 (y : Int))) {f : Int} (hP : BackP s i y f s') :
    Calls Try.prog 23 #[.pointer (some ⟨ptr i, 0, none⟩), .pointer (some ⟨p1, 0, none⟩)] w fun e w' => e = .returned (.int .i64 f) ∧ St w0 S0 w' (B ++ (KA k A c b N ptr s' ++ KF s' ptr)) := by
  obtain ⟨m, hm, hy, hc⟩ := hP
  have hi := hs.id i m hm
  have hlen := hs.len hm
  obtain ⟨pre, z, hpre⟩ : ∃ pre z, m.held = pre ++ [z] := by
    rcases hc with ⟨pre, h, _⟩ | ⟨pre, z, h, _⟩
    · exact ⟨pre, y, h⟩
    · exact ⟨pre, z, h⟩
  have e3 : (B ++ (KA k A c b N ptr s ++ KF s ptr))[B.length + (3 + i)]? = some (MemR (ptr i) m) := by rw [kl_at hi, hm]; rfl
  obtain ⟨T, ⟨C, d, hT⟩, PL⟩ := H.plug e3
  have PL' := Lib.hid PL
  obtain ⟨p, hp⟩ : ∃ p, p = pre.length := ⟨_, rfl⟩
  have hn : m.held.length = p + 1 := by rw [hpre, hp]; simp
  rw [hn] at hT
  have HH := Lib.hid H
  have HM := Lib.hid hm
  have HN := Lib.hid hn
  have HPR := Lib.hid hpre
  have HPP := Lib.hid hp
  have K := St.start hT
  have m1 := (K.blk 0 rfl).two.2
  have HL := Lib.hid (holds_c (m := m) (by rw [hn]; exact m1) (by rw [hn]; exact K.lis 1 rfl) (by omega) y true (decide_eq_true hy).symm)
  have hcap := (K.lis 1 rfl).caps
  obtain ⟨g, off, hC, hg⟩ := (K.lis 1 rfl).at_ (by omega)
  subst hC
  have g0 := hg p _ (ivs_get (show m.held[p]? = some z by rw [hpre, hp]; simp))
  have hp16 : p ≤ 15 := by omega
  have KK := Lib.hid K
  unfold maxLen at hcap
  have hm1 : ((p + 1 : Nat) : Int) - 1 = (p : Int) := by omega
  have i0 : (0 : Int) ≤ (p : Int) := by omega
  have i1 : (p : Int) < ((p + 1 : Nat) : Int) := by omega
  have i2 : (p : Int) < (p : Int) + 1 := by omega
  have i3 : p ≤ d := by omega
  have i4 : (p : Int) ≤ (d : Int) := by omega
  have HC := Lib.hid hc
  have HHY := Lib.hid hy
  obtain ⟨gi, hgi⟩ : ∃ gi, ptr i = gi := ⟨_, rfl⟩
  have HGI := Lib.hid hgi
  rw [hgi] at m1 HL KK ⊢
  clear hgi e3 PL hT K hp hn hpre hg hc hy hlen H hm hs
  go_enter Try.func23, Try.ntmps23
  go_wp2_with fail
  refine HL.out.mono ?_
  rintro e w1 ⟨rfl, rfl⟩
  rcases HC.out with ⟨pre', hpre', rfl, hs'⟩ | ⟨pre', z', hpre', hz, rfl, hs'⟩
  · obtain ⟨rfl, rfl⟩ : pre' = pre ∧ y = z := by
      have h := HPR.out.symm.trans hpre'
      have h1 := List.append_inj' h rfl
      exact ⟨h1.1.symm, by have := h1.2; simp at this; exact this.symm⟩
    have z1 : ((y : Int) != (y : Int)) = false := by simp
    have z1' : (y != y) = false := by simp
    have HSS := Lib.hid hs'
    clear hs' hpre' HL
    go_wp2_with fail
    go_quiet (fail)
    clear g0 e1 m1
    have k1 := KK.out.drewN nq
    have K1 := Lib.hid k1
    have m1 := (k1.blk 0 rfl).two.2
    have f1 := (k1.blk 0 rfl).frozen 1
    have k2 := k1.set_ 0 rfl 1 (.slice (some ⟨g, off, none⟩) p d)
    have k3 := k2.lis_as 1 rfl ((k2.lis 1 rfl).upto (show p ≤ p + 1 by omega)) (fun g hg => hg)
    have K3 := Lib.hid k3
    clear k1 k2 k3
    go_wp2_with fail
    go_ret
    refine ⟨rfl, ?_⟩
    obtain ⟨S', hr, hd⟩ := K3.out.fin (R := MemR (ptr i) ⟨m.prio, pre'⟩) (fun S' h => ⟨some ⟨g, off, none⟩, d, by
      rw [HGI.out]
      show Star [BlkR gi 56 #[.int .i64 m.prio, .slice (some ⟨g, off, none⟩) pre'.length d], LisR 3 1 (.slice (some ⟨g, off, none⟩) pre'.length d) pre'.length (ivs pre')] _ _
      rw [← HPP.out]
      have e : (ivs m.held).take (p * 1) = ivs pre' := by rw [HPR.out, ivs_app, Nat.mul_one, HPP.out, List.take_left' (by simp [ivs])]
      rw [e] at h
      exact h⟩)
    have hx := PL'.out _ _ _ (MemR.ok _ _) hr hd
    rw [kl_set (HH.out |> fun _ => (by have := HM.out; exact (by first | assumption | omega) : i < 64)) HM.out] at hx
    rw [HSS.out]
    exact hx
  · obtain ⟨rfl, rfl⟩ : pre' = pre ∧ z' = z := by
      have h := HPR.out.symm.trans hpre'
      have h1 := List.append_inj' h rfl
      exact ⟨h1.1.symm, by have := h1.2; simp at this; exact this.symm⟩
    have z1 : ((z' : Int) != (y : Int)) = true := by simp; omega
    have z1' : (z' != y) = true := by simpa using hz
    have HSS := Lib.hid hs'
    clear hs' hpre' HL hz
    go_wp2_with fail
    go_quiet (fail)
    go_wp2_with fail
    go_ret
    exact ⟨rfl, by rw [HSS.out]; exact HH.out.drewN _⟩
theorem Back_c (h : KR k N s w S) (hs : s.ok) {i y : Nat} {f : Int} (hP : BackP s i y f s') :
    Calls Try.prog 15 #[.pointer (some ⟨k, 0, none⟩), .int .i64 (i : Int), .int .i64 (y : Int)] w fun e w' => ∃ g, e = .returned (.int .i64 g) ∧ (g = f ∧ ∃ S', KR k N s' w' S' ∧ Did S S' w w') := by
  obtain ⟨A, c, b, ptr, h⟩ := h
  have u : St w S (w.alloc (.cells #[.int .i64 (y : Int)] 3)) ([BlkR w.heap.size 3 #[.int .i64 (y : Int)]] ++ (KA k A c b N ptr s ++ KF s ptr)) := by
    have t := (St.start h).box 3 #[.int .i64 (y : Int)]
    exact t.comm
  have e1 := (u.blk 0 rfl).one
  have V := Lib.hid (KV.of u)
  have fin : ∀ {w1 : World}, St w S w1 ([BlkR w.heap.size 3 #[.int .i64 (y : Int)]] ++ (KA k A c b N ptr s' ++ KF s' ptr)) → ∃ S', KR k N s' w1 S' ∧ Did S S' w w1 := fun {w1} K => by
    have K2 := St.take (St.comm K) (KA k A c b N ptr s' ++ KF s' ptr).length
    rw [List.take_left'] at K2
    · exact K2.fin fun S' h => ⟨A, c, b, ptr, h⟩
    · rfl
  have hP0 := hP
  obtain ⟨m, hm, hy, _⟩ := hP0
  have WB := Lib.hid (with_some V.out hs hm (hs.lt i m y hm hy) (kf := 23) (caps := #[.pointer (some ⟨w.heap.size, 0, none⟩)]) (Q := fun g w' => g = f ∧ ∃ S', KR k N s' w' S' ∧ Did S S' w w') enter_back
    ((backf_c u hs e1 hP).mono fun e w' h => ⟨f, h.1, rfl, fin h.2⟩))
  clear hP u hs h fin hm hy V
  go_enter Try.func15, Try.ntmps15
  go_wp2_with fail
  refine WB.out.mono ?_
  rintro e w1 ⟨g, rfl, rfl, hg⟩
  go_wp2_with fail
  go_ret
  exact ⟨_, rfl, rfl, hg⟩
theorem Back_o (H : St w0 S0 w L) (q : Nat) (hq : L[q]? = some (KR k N s)) (hs : s.ok) {i y : Nat} {f : Int} (hP : BackP s i y f s') :
    Calls Try.prog 15 #[.pointer (some ⟨k, 0, none⟩), .int .i64 (i : Int), .int .i64 (y : Int)] w fun e w' => e = .returned (.int .i64 f) ∧ St w0 S0 w' (L.set q (KR k N s')) :=
  St.call (fun w S h => (Back_c h hs hP).mono fun e w' ⟨g, h1, h2, h3⟩ => ⟨by rw [h1, h2], h3⟩) (KR.ok _ _ _) H q hq
/-! ### Urgencies -/
theorem Prio_none (V : KV w k A c b N ptr s) {i : Nat} (hi : i < 64) (hm : s.mem i = none) :
    Calls Try.prog 13 #[.pointer (some ⟨k, 0, none⟩), .int .i64 (i : Int)] w fun e w' => e = .returned (.tuple #[.int .i64 0, .int .i64 6]) ∧ w = w' := by
  have c1 := V.c1
  have LK := V.look_none hi hm
  clear V hm
  go_enter Try.func13, Try.ntmps13
  go_wp2_with fail
  go_ret2
  exact ⟨rfl, rfl⟩
theorem low_take (s : KS) (l : List Nat) (p : Int) {j x : Nat} (h : l[j]? = some x) : s.low (l.take (j + 1)) p = min (s.low (l.take j) p) (s.ceil x) := by
  rw [List.take_add_one, h]; exact low_snoc s _ x p
theorem Prio_some (V : KV w k A c b N ptr s) (hs : s.ok) {i : Nat} {m : Mb} (hm : s.mem i = some m) :
    Calls Try.prog 13 #[.pointer (some ⟨k, 0, none⟩), .int .i64 (i : Int)] w fun e w' => e = .returned (.tuple #[.int .i64 (s.cur m), .int .i64 0]) ∧ w = w' := by
  have hi := hs.id i m hm
  have c0 := V.c0
  have c1 := V.c1
  have LK := V.look_some hi hm
  have hlen := hs.len hm
  obtain ⟨C, d, m0, m1, ml⟩ := V.me i m hi hm
  have VV := Lib.hid V
  have ML := Lib.hid ml
  have HS := Lib.hid hs
  have HM := Lib.hid hm
  obtain ⟨n, hn⟩ : ∃ n, m.held.length = n := ⟨_, rfl⟩
  rw [hn] at m1 hlen
  have HN := Lib.hid hn
  obtain ⟨L0, hL0⟩ : ∃ L0, s.ceils.length = L0 := ⟨_, rfl⟩
  have HL0 := Lib.hid hL0
  rw [hL0] at c0
  have h16 : L0 ≤ 16 := by have := hs.l2; omega
  generalize ptr i = gi at *
  clear V ml hs hm hn hL0
  go_enter Try.func13, Try.ntmps13
  go_wp2_with fail
  go_loopw [8, 31] (fun p t wr => ∃ j : Nat, j ≤ n ∧ t = .int .i64 (j : Int) ∧ p = .int .i64 (s.low (m.held.take j) m.prio) ∧ wr = w) (fun _ t _ => n - (intOf t).toNat)
  case atStart => exact ⟨0, by omega, rfl, rfl, rfl⟩
  case round =>
  obtain ⟨j, hj, rfl, rfl, rfl⟩ := hrel
  by_cases hjn : j < n
  · obtain ⟨x, hx⟩ : ∃ x, m.held[j]? = some x := ⟨_, List.getElem?_eq_getElem (by rw [HN.out]; exact hjn)⟩
    have hxl : x < L0 := by rw [← HL0.out]; exact HS.out.lt i m x HM.out (List.mem_of_getElem? hx)
    obtain ⟨g, off, rfl, hg⟩ := ML.out.at_ (by rw [HN.out]; omega)
    obtain ⟨g', off', hA, hg'⟩ := VV.out.cl.at_ (by rw [HL0.out]; omega)
    subst hA
    have a0 := hg j _ (ivs_get hx)
    have a1 := hg' x _ (cvs_get (show s.ceils[x]? = some (s.ceil x) by unfold KS.ceil; rw [List.getD_eq_getElem?_getD, List.getElem?_eq_getElem (by rw [HL0.out]; exact hxl)]; rfl))
    have HLW := Lib.hid (low_take s m.held m.prio hx)
    obtain ⟨p, hp⟩ : ∃ p, p = s.low (m.held.take j) m.prio := ⟨_, rfl⟩
    obtain ⟨cx, hcx⟩ : ∃ cx, cx = s.ceil x := ⟨_, rfl⟩
    rw [← hp, ← hcx] at HLW
    rw [← hcx] at a1
    rw [← hp]
    have t1 : decide ((j : Int) < (n : Int)) = true := decide_eq_true (by omega)
    have t1' : decide (j < n) = true := decide_eq_true hjn
    have j0 : (0 : Int) ≤ (j : Int) := by omega
    have j1 : (j : Int) < (n : Int) := by omega
    have x0 : (0 : Int) ≤ (x : Int) := by omega
    have x1 : (x : Int) < (L0 : Int) := by omega
    clear hp hcx hx hg hg'
    by_cases hc : cx < p
    · have e1 : (if p < cx then p else cx) = cx := if_neg (by omega)
      have e2 : (if cx < p then cx else p) = cx := if_pos hc
      have e3 := Lib.hid (show cx = s.low (m.held.take (j + 1)) m.prio by rw [HLW.out]; omega)
      clear hc
      go_wp2_with fail
      go_roundw
      case rel => exact ⟨j + 1, by omega, by go_num, by rw [← e3.out], by first | rfl | trivial⟩
      case measure => simp [intOf]; omega
    · have e1 : (if p < cx then p else cx) = p := by split <;> omega
      have e2 : (if cx < p then cx else p) = p := if_neg hc
      have e3 := Lib.hid (show p = s.low (m.held.take (j + 1)) m.prio by rw [HLW.out]; omega)
      clear hc
      go_wp2_with fail
      go_roundw
      case rel => exact ⟨j + 1, by omega, by go_num, by rw [← e3.out], by first | rfl | trivial⟩
      case measure => simp [intOf]; omega
  · have t1 : decide ((j : Int) < (n : Int)) = false := decide_eq_false (by omega)
    have t1' : decide (j < n) = false := decide_eq_false hjn
    have e3 := Lib.hid (show s.low (m.held.take j) m.prio = s.cur m by rw [List.take_of_length_le (by rw [HN.out]; omega)]; rfl)
    rw [e3.out]
    go_wp2_with fail
    go_ret2
    exact ⟨rfl, rfl⟩
/-! ### What is held -/
theorem Held_none (V : KV w k A c b N ptr s) {i : Nat} (hi : i < 64) (hm : s.mem i = none) :
    Calls Try.prog 10 #[.pointer (some ⟨k, 0, none⟩), .int .i64 (i : Int)] w fun e w' => e = .returned (.slice none 0 0) ∧ w = w' := by
  have c1 := V.c1
  have LK := V.look_none hi hm
  clear V hm
  go_enter Try.func10, Try.ntmps10
  go_wp2_with fail
  go_ret
  exact ⟨rfl, rfl⟩
theorem Held_some (V : KV w k A c b N ptr s) (hs : s.ok) {i : Nat} {m : Mb} (hm : s.mem i = some m) :
    Calls Try.prog 10 #[.pointer (some ⟨k, 0, none⟩), .int .i64 (i : Int)] w fun e w' => ∃ C d, e = .returned (.slice C m.held.length d) ∧ St w None w' [LisR 3 1 (.slice C m.held.length d) m.held.length (ivs m.held)] := by
  have hi := hs.id i m hm
  have c1 := V.c1
  have LK := V.look_some hi hm
  have hlen := hs.len hm
  obtain ⟨C, d, m0, m1, ml⟩ := V.me i m hi hm
  have CL := Lib.hid (clone_i (c := d) w ml.reads (by omega))
  clear V ml hs hm m0
  generalize m.held.length = n at *
  generalize ptr i = gi at *
  go_enter Try.func10, Try.ntmps10
  go_wp2_with fail
  refine CL.out.mono ?_
  rintro e w1 ⟨C', d', rfl, s1⟩
  have S1 := Lib.hid s1
  clear s1 CL
  go_wp2_with fail
  go_ret
  exact ⟨C', d', rfl, S1.out⟩
end
end Go.Proofs.Ytpfodchdpafofaa
