/- Layer 8: what is gathered behind a scatter, and rows that are compared. -/
import Derived.Test.YtiaojhjghededaaPieX
namespace Go.Proofs.Ytiaojhjghededaa
open Go.RowKit
set_option linter.unusedVariables false
set_option maxRecDepth 100000
set_option maxHeartbeats 1600000
theorem gat_len {n : Nat} {st : Nat → Buf} {ps : List Pc} {G : Int} (ok : POK n st G) (hm : mayL n st ps = true) : (gatP st ps).length = totP ps := by
  obtain ⟨hw, -⟩ := may_wf ok hm
  clear hm
  unfold gatP totP
  induction ps with
  | nil => rfl
  | cons p r ih =>
    rw [List.flatMap_cons, List.length_append, cut_len st p (hw p List.mem_cons_self), ih fun q hq => hw q (List.mem_cons_of_mem _ hq), List.map_cons, List.sum_cons]
theorem len_tot {n : Nat} {st : Nat → Buf} {ps : List Pc} {G : Int} (ok : POK n st G) (hm : mayL n st ps = true) : lenP ps = (totP ps : Nat) ∧ totP ps ≤ 65536 * 16 := by
  obtain ⟨-, -, hf, -, hl⟩ := may_wf ok hm
  have hsm : ∀ q ∈ ps, q.sm := fun q hq => fit_sm ok (hf q hq)
  constructor
  · have : ∀ i, i ≤ ps.length → sumX (comeP ps i) = (totP (ps.take i) : Nat) := by
      intro i
      induction i with
      | zero => intro _; rfl
      | succ i ih =>
        intro hi
        obtain ⟨p, hp⟩ : ∃ p, ps[i]? = some p := ⟨ps[i], List.getElem?_eq_getElem (by omega)⟩
        obtain ⟨-, m0, m1⟩ := hsm p (List.mem_of_getElem? hp)
        rw [comeP_succ, sumX_snoc, ih (by omega), List.take_add_one, hp, show (some p).toList = [p] from rfl, totP_snoc, getD_of hp]
        unfold clipP
        dsimp only
        rw [if_neg (show ¬ p.m < 0 by omega), if_pos (by omega)]
        omega
    have h2 := this _ (Nat.le_refl _)
    rw [List.take_length] at h2
    exact h2
  · have := (begP_tot hsm hl ps.length (Nat.le_refl _)).2
    rw [List.take_length] at this
    omega
theorem sca_same : ∀ (qs : List Pc) (b : List Int) (st : Nat → Buf), (∀ q ∈ qs, wfP st q) → ∀ i, (scaP qs b st i).bs.length = (st i).bs.length ∧ (scaP qs b st i).gen = (st i).gen ∧ (scaP qs b st i).owner = (st i).owner ∧ (scaP qs b st i).refs = (st i).refs
  | [], b, st, _, i => ⟨rfl, rfl, rfl, rfl⟩
  | q :: r, b, st, hq, i => by
    unfold scaP
    split
    · exact ⟨rfl, rfl, rfl, rfl⟩
    · have h1 := put_len st q (b.take q.m.toNat) (hq q List.mem_cons_self) (by rw [List.length_take]; omega)
      obtain ⟨a1, a2, a3, a4⟩ := sca_same r (b.drop q.m.toNat) (putP st q (b.take q.m.toNat)) (fun p hp => by
        have := hq p (List.mem_cons_of_mem _ hp)
        unfold wfP at this ⊢
        rw [(h1 _).1]; exact this) i
      obtain ⟨c1, c2, c3, c4⟩ := h1 i
      exact ⟨a1.trans c1, a2.trans c2, a3.trans c3, a4.trans c4⟩
theorem sca_ok {n : Nat} {st : Nat → Buf} {ps : List Pc} {G : Int} (ok : POK n st G) (hm : mayL n st ps = true) (b : List Int) : POK n (scaP ps b st) G ∧ mayL n (scaP ps b st) ps = true := by
  obtain ⟨hw, -, -, -, -⟩ := may_wf ok hm
  have hk := sca_same ps b st hw
  refine ⟨⟨ok.n1, ok.n2, ok.g, fun i hi => ?_⟩, ?_⟩
  · obtain ⟨h1, h2, h3, h4⟩ := ok.b i hi
    obtain ⟨k1, k2, k3, k4⟩ := hk i
    exact ⟨by rw [k2]; exact h1, by rw [k3]; exact h2, by rw [k4]; exact h3, by rw [k1]; exact h4⟩
  · have hs : ∀ s g, szB n (scaP ps b st) s g = szB n st s g := fun s g => by
      obtain ⟨k1, k2, k3, k4⟩ := hk s.toNat
      unfold szB
      rw [k1, k2, k3]
    have hf : ∀ p, fitP n (scaP ps b st) p = fitP n st p := fun p => by unfold fitP; rw [hs]
    have hg : ∀ (qs pre : List Pc), mayG n (scaP ps b st) pre qs = mayG n st pre qs := by
      intro qs
      induction qs with
      | nil => intro pre; rfl
      | cons c r ih => intro pre; unfold mayG; rw [hf, ih]
    unfold mayL at hm ⊢
    rw [hg]; exact hm
theorem back_take {b X : List Int} : ((b.take X.length ++ X.drop b.length).take (min X.length b.length)) = b.take (min X.length b.length) := by
  rw [List.take_append_of_le_length (by rw [List.length_take]; omega), List.take_take]
  congr 1
  omega
theorem back_drop {b X : List Int} : ((b.take X.length ++ X.drop b.length).drop (min X.length b.length)) = X.drop (min X.length b.length) := by
  rw [List.drop_append, List.drop_of_length_le (l := b.take X.length) (by rw [List.length_take]; omega), List.nil_append, List.length_take, Nat.sub_self, List.drop_zero]
  by_cases h : b.length ≤ X.length
  · rw [Nat.min_eq_right h]
  · rw [Nat.min_eq_left (by omega), List.drop_of_length_le (by omega), List.drop_of_length_le (Nat.le_refl _)]
theorem back_len {b X : List Int} : (b.take X.length ++ X.drop b.length).length = X.length := by
  rw [List.length_append, List.length_take, List.length_drop]; omega
section
variable {w : World} {A B : Option Addr} {n m cap cap2 : Nat} {f g : Nat → Int}
/-- Of rows as long as one another: the same, if each byte is; nothing but the order of what is read is drawn. -/
theorem same_q (rd : Rd w A n (fun j => .int .u8 (f j))) (rd2 : Rd w B n (fun j => .int .u8 (g j))) (hm : n ≤ maxLen) (hx : ∀ j, j < n → f j = g j) :
    Calls Try.prog 13 #[.slice A n cap, .slice B n cap2] w fun e w' => e = .returned (.bool true) ∧ ∃ m, w' = w.drewN m := by
  unfold maxLen at hm
  have HX := Lib.hid hx
  have RD1 := Lib.hid rd
  have RD2 := Lib.hid rd2
  clear hx rd rd2
  go_enter Try.func13, Try.ntmps13
  go_wp2_with fail
  go_loopw [5] (fun i wr => ∃ k : Nat, k ≤ n ∧ i = .int .i64 k ∧ ∃ m, wr = w.drewN m) (fun i _ => n - (intOf i).toNat)
  case atStart => exact ⟨0, by omega, rfl, 0, rfl⟩
  case round =>
    obtain ⟨k, hk, rfl, m, rfl⟩ := hrel
    by_cases hlt : k < n
    · obtain ⟨b, off, rfl, hb, hcell⟩ := RD1.out (by omega)
      obtain ⟨b2, off2, rfl, hb2, hcell2⟩ := RD2.out (by omega)
      have c1 : (w.drewN m).cell? ⟨b, off + k, none⟩ = some (.int .u8 (f k)) := hcell k hlt
      have c2 : (w.drewN m).cell? ⟨b2, off2 + k, none⟩ = some (.int .u8 (g k)) := hcell2 k hlt
      rw [← HX.out k hlt] at c2
      clear hcell hcell2
      generalize f k = y at *
      have i0 : (0 : Int) ≤ (k : Int) := by omega
      have i1 : (k : Int) < (n : Int) := by omega
      have d1 : (y != y) = false := by simp
      obtain ⟨V, hV⟩ : ∃ V, w.drewN m = V := ⟨_, rfl⟩
      have HV := Lib.hid hV
      rw [hV] at c1 c2 ⊢
      clear hV
      go_wp2_with fail
      go_quiet (fail)
      go_wp2_with fail
      go_roundw
      case rel => exact ⟨k + 1, by omega, by go_num, _, by rw [← HV.out]; exact World.drewN_drewN _ _ _⟩
      case measure => simp [intOf]; omega
    · obtain rfl : k = n := by omega
      go_wp2
      go_ret
      exact ⟨rfl, m, rfl⟩
end
theorem run_slice_to {P : Program} (T e : TypeId) (hu : P.underlying T = some (.slice e)) (hsz : ∀ W, (Go.sizeOf e).run P W = .ok 1 W) (a : Option Addr) (len cap k : Nat) (hk : k ≤ cap) (W : World) :
    (Instr.slice T (.slice a len cap) none (some (.int .i64 (k : Int))) none).run P W = .ok (.slice (if cap = 0 then a else a.map (·.add (0 * 1))) k cap) W := by
  have h1 : (0 : Int) ≤ (k : Int) ∧ (k : Int) ≤ (cap : Int) := ⟨by omega, by omega⟩
  simp [Instr.slice, Instr.sliceBounds, Instr.sliceBound, run_underlying hu, hsz, asIntOf, h1, hk]
theorem run_slice_from {P : Program} (T e : TypeId) (hu : P.underlying T = some (.slice e)) (hsz : ∀ W, (Go.sizeOf e).run P W = .ok 1 W) (a : Option Addr) (len cap k : Nat) (hk : k ≤ len) (W : World) :
    (Instr.slice T (.slice a len cap) (some (.int .i64 (k : Int))) none none).run P W = .ok (.slice (if cap = k then a else a.map (·.add (k * 1))) (len - k) (cap - k)) W := by
  have h1 : (0 : Int) ≤ (k : Int) ∧ (k : Int) ≤ (len : Int) := ⟨by omega, by omega⟩
  simp [Instr.slice, Instr.sliceBounds, Instr.sliceBound, run_underlying hu, hsz, asIntOf, h1, hk]
end Go.Proofs.Ytiaojhjghededaa
