/- Layer 25: parts read as a record. -/
import Derived.Test.YtlceanlenekanaaDoorTraN
namespace Go.Proofs.YtlceanlenekanaaDoor
open Go.RowKit
set_option linter.unusedVariables false
set_option maxRecDepth 100000
set_option maxHeartbeats 4000000
def zTk : Array Value := #[.int .i64 0, .slice none 0 0, .slice none 0 0, .slice none 0 0, .slice none 0 0]
/-- A record in an answer. -/
def tkV (t : Tk) (B1 B2 B3 B4 : Option Addr) (n1 n2 n3 n4 c1 c2 c3 c4 : Nat) : Value := .agg #[.int .i64 t.who, .slice B1 n1 c1, .slice B2 n2 c2, .slice B3 n3 c3, .slice B4 n4 c4]
@[reducible] def TkM (t : Tk) (B1 B2 B3 B4 : Option Addr) (n1 n2 n3 n4 c1 c2 c3 c4 : Nat) : List Res :=
  [LisR 3 1 (.slice B1 n1 c1) n1 (ivI t.dn), LisR 3 1 (.slice B2 n2 c2) n2 (ivI t.ct), LisR 3 1 (.slice B3 n3 c3) n3 (ivI t.ms), LisR 36 3 (.slice B4 n4 c4) n4 (fCs t.ft)]
theorem RdC.tl {w : World} {g o : Nat} {A : Option Addr} {v : Value} {vs : List Value} (h : RdC w (some ⟨g, o, none⟩) (v :: vs)) (hA : vs = [] ∨ A = some ⟨g, o + 1, none⟩) : RdC w A vs := fun i u hu => by
  rcases hA with rfl | rfl
  · cases hu
  · obtain ⟨g', o', e, h1, h2⟩ := h (i + 1) u (by rw [List.getElem?_cons_succ]; exact hu)
    injection e with e; injection e with e1 e2; subst e1; subst e2
    exact ⟨g, o + 1, rfl, h1, by rw [show o + 1 + i = o + (i + 1) by omega]; exact h2⟩
theorem RdC.hd {w : World} {A : Option Addr} {v : Value} {vs : List Value} (h : RdC w A (v :: vs)) : ∃ g o, A = some ⟨g, o, none⟩ ∧ g < w.heap.size ∧ w.cell? ⟨g, o, none⟩ = some v := by
  obtain ⟨g, o, e, h1, h2⟩ := h 0 v rfl
  exact ⟨g, o, e, h1, h2⟩
def lenOf : Value → Nat
  | .slice _ n _ => n
  | _ => 0
theorem rdI_n (x : Int) (l : List It) (t : Tk) : rdI (.n x :: l) t = none := by unfold rdI; rfl
theorem rdI_m (r : Int) (t : Tk) (h : r ≠ 46) : rdI [.m r] t = none := by unfold rdI; rw [if_neg h]
theorem rdI_mm (r r' : Int) (l : List It) (t : Tk) (h : r ≠ 46) : rdI (.m r :: .m r' :: l) t = none := by unfold rdI; rw [if_neg h]
theorem rdI_no (r x : Int) (l : List It) (t : Tk) (h : r ≠ 46) (hp : putI t r x = none) : rdI (.m r :: .n x :: l) t = none := by rw [rdI, if_neg h]; simp only [hp]
def whoOk (t : Tk) : Prop := -1 ≤ t.who ∧ t.who ≤ 2147483747
theorem setL_some {l l' : List (Int × Int × Int)} {k y : Int} (_ : setL l k y = some l') : True := trivial
theorem putI_who {t t' : Tk} {r x : Int} (h : putI t r x = some t') (hw : whoOk t) (hx : 0 ≤ x ∧ x ≤ 2147483647) : whoOk t' := by
  unfold whoOk at hw ⊢
  unfold putI at h
  split at h
  · injection h with h; subst h; dsimp only; omega
  split at h
  · injection h with h; subst h; dsimp only; omega
  split at h
  · injection h with h; subst h; exact hw
  split at h
  · injection h with h; subst h; exact hw
  split at h
  · injection h with h; subst h; exact hw
  split at h
  · injection h with h; subst h; exact hw
  split at h
  · cases e : setL t.ft 1 x with
    | none => rw [e] at h; cases h
    | some l => rw [e] at h; injection h with h; subst h; exact hw
  split at h
  · cases e : setL t.ft 2 x with
    | none => rw [e] at h; cases h
    | some l => rw [e] at h; injection h with h; subst h; exact hw
  · cases h
theorem read_o (A : Option Addr) (n c : Nat) (l : List It) (w : World) (hn : l.length = n) (hnc : n ≤ c) (hcm : c ≤ maxLen) (hn2 : n ≤ 100000) (hA : RdC w A (itVs l)) (hnum : ∀ x, It.n x ∈ l → 0 ≤ x ∧ x ≤ 2147483647) :
    Calls Tryd.prog 25 #[.slice A n c] w fun e w' => (rdI l tk0 = none ∧ e = .returned (.tuple #[.agg zTk, .bool false]) ∧ St w None w' []) ∨ ∃ t B1 B2 B3 B4 n1 n2 n3 n4 c1 c2 c3 c4, rdI l tk0 = some t ∧ TkN t n1 n2 n3 n4 ∧ (n1 ≤ 100000 ∧ n2 ≤ 100000 ∧ n3 ≤ 100000 ∧ n4 ≤ 100000) ∧ whoOk t ∧ e = .returned (.tuple #[tkV t B1 B2 B3 B4 n1 n2 n3 n4 c1 c2 c3 c4, .bool true]) ∧ St w None w' (TkM t B1 B2 B3 B4 n1 n2 n3 n4 c1 c2 c3 c4) := by
  unfold maxLen at hcm
  obtain ⟨a, ha⟩ : ∃ a, w.heap.size = a := ⟨_, rfl⟩
  have s0 := (St.begin w).box 27 #[.int .i64 0, .slice none 0 0, .slice none 0 0, .slice none 0 0, .slice none 0 0]
  rw [ha] at s0
  have s1 := s0.box 27 #[.int .i64 (-1), .slice none 0 0, .slice none 0 0, .slice none 0 0, .slice none 0 0]
  rw [show (w.alloc (.cells #[.int .i64 0, .slice none 0 0, .slice none 0 0, .slice none 0 0, .slice none 0 0] 27)).heap.size = a + 1 by simp [ha]] at s1
  have s2 := (((s1.lis_nil 3 1).lis_nil 3 1).lis_nil 3 1).lis_nil 36 3
  have s3 := St.comm (A := [BlkR a 27 #[.int .i64 0, .slice none 0 0, .slice none 0 0, .slice none 0 0, .slice none 0 0]]) s2
  have RA0 := Lib.hid hA
  have HL := Lib.hid (show rdI l tk0 = rdI l tk0 from rfl)
  obtain ⟨MM, hMM⟩ : ∃ MM, rdI l tk0 = MM := ⟨_, rfl⟩
  have HMM := Lib.hid hMM
  have HNUM := Lib.hid hnum
  have S3 := Lib.hid s3
  clear s0 s1 s2 s3 hA HL hnum
  rw [hMM]
  clear hMM
  go_enter Tryd.func25, Tryd.ntmps25
  go_wp2
  go_loopw [0, 5, 6, 7] (fun x0 _ _ _ wr => ∃ (rest : List It) (t : Tk) (A' : Option Addr) (m c' : Nat) (B1 B2 B3 B4 : Option Addr) (n1 n2 n3 n4 c1 c2 c3 c4 : Nat), rest.length = m ∧ m ≤ c' ∧ c' ≤ c ∧ x0 = .slice A' m c' ∧ MM = rdI rest t ∧ (∀ x, It.n x ∈ rest → 0 ≤ x ∧ x ≤ 2147483647) ∧ RdC w A' (itVs rest) ∧ TkN t n1 n2 n3 n4 ∧ whoOk t ∧ (n1 + m ≤ n ∧ n2 + m ≤ n ∧ n3 + m ≤ n ∧ n4 + m ≤ n) ∧ St w None wr (TkL (a + 1) t B1 B2 B3 B4 n1 n2 n3 n4 c1 c2 c3 c4 ++ [BlkR a 27 #[.int .i64 0, .slice none 0 0, .slice none 0 0, .slice none 0 0, .slice none 0 0]])) (fun x0 _ _ _ _ => lenOf x0)
  case atStart => exact ⟨l, tk0, A, n, c, none, none, none, none, 0, 0, 0, 0, 0, 0, 0, 0, hn, hnc, Nat.le_refl _, rfl, HMM.out.symm, HNUM.out, RA0.out, ⟨rfl, rfl, rfl, rfl⟩, ⟨by decide, by decide⟩, ⟨by omega, by omega, by omega, by omega⟩, S3.out⟩
  case round =>
  obtain ⟨rest, t, A', m, c', B1, B2, B3, B4, n1, n2, n3, n4, c1, c2, c3, c4, hm, hmc, hcc, rfl, hM, hnums, hrd, hN, hw, hk, hst⟩ := hrel
  have hrd0 := hrd
  replace hrd := hrd.on hst.below
  obtain ⟨p0, p1, p2, p3, p4⟩ := (hst.blk 0 rfl).five5
  obtain ⟨a0, a1, a2, a3, a4⟩ := (hst.blk 5 rfl).five5
  have fa := (hst.blk 5 rfl).frozen
  have fp := (hst.blk 0 rfl).frozen
  have HST := Lib.hid hst
  have HRD := Lib.hid hrd
  have HN := Lib.hid hN
  have HW := Lib.hid hw
  have HNU := Lib.hid hnums
  clear hst hN hw hnums
  cases rest with
  | nil =>
    obtain rfl : m = 0 := hm.symm
    have HM := Lib.hid (show MM = some t from hM)
    have s6 := ((((HST.out.set_ 5 rfl 0 (.int .i64 t.who)).set_ 5 rfl 1 (.slice B1 n1 c1)).set_ 5 rfl 2 (.slice B2 n2 c2)).set_ 5 rfl 3 (.slice B3 n3 c3)).set_ 5 rfl 4 (.slice B4 n4 c4)
    have Q := Lib.hid (s6.blk 5 rfl).five5
    have S6 := Lib.hid ((s6.drop 0 (Nat.zero_lt_succ _)).take 4)
    clear hrd hrd0 hM s6 HRD
    go_wp2_with fail
    (try simp only [Exit.inBlock, Exit.then])
    refine bodyPost_ret (v := .tuple #[tkV t B1 B2 B3 B4 n1 n2 n3 n4 c1 c2 c3 c4, .bool true]) ?_ rfl (Or.inr ⟨t, B1, B2, B3, B4, n1, n2, n3, n4, c1, c2, c3, c4, HM.out, HN.out, ⟨by omega, by omega, by omega, by omega⟩, HW.out, rfl, S6.out⟩)
    obtain ⟨q0, q1, q2, q3, q4⟩ := Q.out
    simp [results, go_sem, tkV, q0, q1, q2, q3, q4]
  | cons i rest =>
    obtain ⟨m, rfl⟩ : ∃ k, m = k + 1 := ⟨rest.length, by rw [← hm]; rfl⟩
    have hm1 : rest.length = m := by rw [List.length_cons] at hm; omega
    clear hm
    obtain ⟨g, o, rfl, hg, e0⟩ := RdC.hd hrd
    have z1 : decide ((0 : Int) < ((m + 1 : Nat) : Int)) = true := decide_eq_true (by omega)
    have z10 : decide ((0 : Int) < (m : Int) + 1) = true := decide_eq_true (by omega)
    obtain ⟨A2, hA2, hR2⟩ : ∃ A2, (if c' = 1 then some ⟨g, o, none⟩ else some (⟨g, o + 1, none⟩ : Addr)) = A2 ∧ (rest = [] ∨ A2 = some ⟨g, o + 1, none⟩) := by
      by_cases h1 : c' = 1
      · exact ⟨_, if_pos h1, Or.inl (List.length_eq_zero_iff.1 (by omega))⟩
      · exact ⟨_, if_neg h1, Or.inr rfl⟩
    cases i with
    | n x =>
      have HM := Lib.hid (show MM = none by rw [hM, rdI_n])
      clear hM hrd hrd0 HRD HNU
      unfold itV at e0
      go_wp2_with fail
      (try simp only [Exit.inBlock, Exit.then])
      have s6 := ((((HST.out.set_ 5 rfl 0 (.int .i64 0)).set_ 5 rfl 1 (.slice none 0 0)).set_ 5 rfl 2 (.slice none 0 0)).set_ 5 rfl 3 (.slice none 0 0)).set_ 5 rfl 4 (.slice none 0 0)
      refine bodyPost_ret (v := .tuple #[.agg zTk, .bool false]) ?_ rfl (Or.inl ⟨HM.out, rfl, s6.take 0⟩)
      obtain ⟨q0, q1, q2, q3, q4⟩ := (s6.blk 5 rfl).five5
      simp [results, go_sem, zTk, q0, q1, q2, q3, q4]
    | m r =>
      unfold itV at e0
      have hrd2 := RdC.tl (A := A2) hrd0 (hR2.imp (fun h => by rw [h]; rfl) id)
      by_cases hr : r = 46
      · subst hr
        rw [rdI_dot] at hM
        have HM := Lib.hid hM
        have HR2 := Lib.hid hrd2
        have NU2 := Lib.hid (fun x hx => HNU.out x (List.mem_cons_of_mem _ hx))
        clear hM hrd hrd0 HRD hrd2
        go_wp2_with fail
        go_roundw
        case rel => exact ⟨rest, t, A2, m, c' - 1, B1, B2, B3, B4, n1, n2, n3, n4, c1, c2, c3, c4, hm1, by omega, by omega, rfl, HM.out, NU2.out, HR2.out, HN.out, HW.out, ⟨by omega, by omega, by omega, by omega⟩, HST.out⟩
        case measure => simp [lenOf]
      · have zr : (r == 46) = false := beq_eq_false_iff_ne.2 hr
        cases rest with
        | nil =>
          obtain rfl : m = 0 := hm1.symm
          have HM := Lib.hid (show MM = none by rw [hM, rdI_m r t hr])
          clear hM hrd hrd0 HRD HNU hrd2
          go_wp2_with fail
          (try simp only [Exit.inBlock, Exit.then])
          have s6 := ((((HST.out.set_ 5 rfl 0 (.int .i64 0)).set_ 5 rfl 1 (.slice none 0 0)).set_ 5 rfl 2 (.slice none 0 0)).set_ 5 rfl 3 (.slice none 0 0)).set_ 5 rfl 4 (.slice none 0 0)
          refine bodyPost_ret (v := .tuple #[.agg zTk, .bool false]) ?_ rfl (Or.inl ⟨HM.out, rfl, s6.take 0⟩)
          obtain ⟨q0, q1, q2, q3, q4⟩ := (s6.blk 5 rfl).five5
          simp [results, go_sem, zTk, q0, q1, q2, q3, q4]
        | cons j rest =>
          obtain ⟨m, rfl⟩ : ∃ k, m = k + 1 := ⟨rest.length, by rw [← hm1]; rfl⟩
          have hm2 : rest.length = m := by rw [List.length_cons] at hm1; omega
          clear hm1
          obtain rfl : A2 = some ⟨g, o + 1, none⟩ := hR2.resolve_left (by simp)
          obtain ⟨g', o', ee, hg2, e1⟩ := RdC.hd (hrd2.on HST.out.below)
          injection ee with ee; injection ee with ee1 ee2; subst ee1; subst ee2
          have z2 : (((m + 1 : Nat) : Int) == 0) = false := beq_eq_false_iff_ne.2 (by omega)
          have z20 : ((m : Int) + 1 == 0) = false := beq_eq_false_iff_ne.2 (by omega)
          cases j with
          | m r' =>
            unfold itV at e1
            have HM := Lib.hid (show MM = none by rw [hM, rdI_mm r r' rest t hr])
            clear hM hrd hrd0 HRD HNU hrd2
            go_wp2_with fail
            (try simp only [Exit.inBlock, Exit.then])
            have s6 := ((((HST.out.set_ 5 rfl 0 (.int .i64 0)).set_ 5 rfl 1 (.slice none 0 0)).set_ 5 rfl 2 (.slice none 0 0)).set_ 5 rfl 3 (.slice none 0 0)).set_ 5 rfl 4 (.slice none 0 0)
            refine bodyPost_ret (v := .tuple #[.agg zTk, .bool false]) ?_ rfl (Or.inl ⟨HM.out, rfl, s6.take 0⟩)
            obtain ⟨q0, q1, q2, q3, q4⟩ := (s6.blk 5 rfl).five5
            simp [results, go_sem, zTk, q0, q1, q2, q3, q4]
          | n x =>
            unfold itV at e1
            have hx := HNU.out x (List.mem_cons_of_mem _ List.mem_cons_self)
            have KP := Lib.hid (put_o r x HST.out HN.out (by omega) (by omega) (by omega) (by omega) hx)
            obtain ⟨A3, hA3, hR3⟩ : ∃ A3, (if c' = 2 then some ⟨g, o + 1, none⟩ else some (⟨g, o + 1 + 1, none⟩ : Addr)) = A3 ∧ (rest = [] ∨ A3 = some ⟨g, o + 1 + 1, none⟩) := by
              by_cases h1 : c' = 2
              · exact ⟨_, if_pos h1, Or.inl (List.length_eq_zero_iff.1 (by omega))⟩
              · exact ⟨_, if_neg h1, Or.inr rfl⟩
            have hrd3 := RdC.tl (A := A3) hrd2 (hR3.imp (fun h => by rw [h]; rfl) id)
            cases hp : putI t r x with
            | none =>
              rw [hp] at KP
              have HM := Lib.hid (show MM = none by rw [hM, rdI_no r x rest t hr hp])
              clear hM hrd hrd0 HRD HNU hrd2 hrd3 hp
              go_wp2_with (go_at_call 36; refine KP.out.mono ?_; rintro e w2 (⟨_, rfl, s2⟩ | ⟨t', _, _, _, _, _, _, _, _, _, _, _, _, hh, _⟩); rotate_left 1; exact absurd hh (by simp); have S2 := Lib.hid s2; have fa2 := (s2.blk 5 rfl).frozen; obtain ⟨b0, b1, b2, b3, b4⟩ := (s2.blk 5 rfl).five5; clear s2)
              (try simp only [Exit.inBlock, Exit.then])
              have s6 := ((((S2.out.set_ 5 rfl 0 (.int .i64 0)).set_ 5 rfl 1 (.slice none 0 0)).set_ 5 rfl 2 (.slice none 0 0)).set_ 5 rfl 3 (.slice none 0 0)).set_ 5 rfl 4 (.slice none 0 0)
              refine bodyPost_ret (v := .tuple #[.agg zTk, .bool false]) ?_ rfl (Or.inl ⟨HM.out, rfl, s6.take 0⟩)
              obtain ⟨q0, q1, q2, q3, q4⟩ := (s6.blk 5 rfl).five5
              simp [results, go_sem, zTk, q0, q1, q2, q3, q4]
            | some t' =>
              rw [hp] at KP
              have HW2 := Lib.hid (putI_who hp HW.out hx)
              rw [rdI_two r x rest t t' hr hp] at hM
              have HM := Lib.hid hM
              have NU2 := Lib.hid (fun y hy => HNU.out y (List.mem_cons_of_mem _ (List.mem_cons_of_mem _ hy)))
              have HR3 := Lib.hid hrd3
              clear hM hrd hrd0 HRD HNU hrd2 hrd3 hp
              go_wp2_with (go_at_call 36; refine KP.out.mono ?_; rintro e w2 (⟨hh, _⟩ | ⟨t'', E1, E2, E3, E4, m1, m2, m3, m4, d1, d2, d3, d4, hh, hk2, hN2, rfl, s2⟩); exact absurd hh (by simp); injection hh with hh; subst hh; have S2 := Lib.hid s2; have HN2 := Lib.hid hN2; clear s2 hN2)
              go_roundw
              case rel => exact ⟨rest, t', A3, m, c' - 1 - 1, E1, E2, E3, E4, m1, m2, m3, m4, d1, d2, d3, d4, hm2, by omega, by omega, rfl, HM.out, NU2.out, HR3.out, HN2.out, HW2.out, ⟨by omega, by omega, by omega, by omega⟩, S2.out⟩
              case measure => simp [lenOf]; omega
end Go.Proofs.YtlceanlenekanaaDoor
