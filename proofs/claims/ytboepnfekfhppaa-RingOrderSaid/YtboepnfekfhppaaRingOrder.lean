/-
  For every size and every script RingOrder answers true, and changes nothing: descriptors are taken, and reaped, in the order in which they were put, each once, and none is reaped that wasn't finished. No condition.
-/
import Derived.Test.YtboepnfekfhppaaRows
import Derived.Test.YtboepnfekfhppaaFr
import Derived.Test.YtboepnfekfhppaaRingX
import Derived.Test.YtboepnfekfhppaaOpen
import Derived.Deep.RegionHeld3
namespace Go.Proofs.Ytboepnfekfhppaa.ringOrder
open Go.ChangeShapes Go.WideShapes Go.ChangeAt Go.RowKit
set_option linter.unusedVariables false
theorem own : ownKnob Try.prog.godebug = none := by kernel_rfl
theorem laid : laidOutB Try.prog = true := by kernel_rfl
set_option maxRecDepth 100000
set_option maxHeartbeats 4000000
theorem Try.infoBo : (Try.prog.info? 4).map (fun i => (i.zero, i.size, i.bytes)) = some (some (.bool false), 1, 1) := by kernel_rfl
/-- Which ones were finished. -/
def fin (s : RSt) (j : Nat) : Bool := decide (j < s.put) && (s.D j).dn
/-- Each holds its number. -/
def Numd (s : RSt) : Prop := ∀ j, j < s.put → (s.D j).req = j ∧ ((s.D j).dn = true → (s.D j).dv = false)
def dN (k : Nat) : Dsc := ⟨0, k, 0, 0, 0, 0, false, false, 0⟩
theorem dN_may {k : Nat} (h : k ≤ 1000) : (dN k).inR.may := by
  unfold Dsc.may Dsc.inR dN; dsimp only; refine ⟨?_, ?_, ?_, ?_, ?_, ?_, ?_, Or.inr rfl⟩ <;> omega
theorem dN_fits {k : Nat} (h : k ≤ 1000) : (dN k).fits := by unfold Dsc.fits dN; dsimp only; omega
def putS (s : RSt) : RSt := ⟨s.put + 1, s.taken, s.reaped, setD s.D s.put (dN s.put).inR⟩
theorem putS_numd {s : RSt} (h : Numd s) : Numd (putS s) := by
  intro j hj
  have hj : j < s.put + 1 := hj
  show (setD s.D s.put _ j).req = j ∧ _
  unfold putS; dsimp only; unfold setD
  by_cases e : j = s.put
  · rw [if_pos e]; subst e; exact ⟨rfl, fun h => by cases h⟩
  · rw [if_neg e]; exact h j (by omega)
theorem putS_fin (s : RSt) (j : Nat) : fin (putS s) j = fin s j := by
  unfold fin putS; dsimp only; unfold setD
  by_cases e : j = s.put
  · rw [if_pos e]; subst e; simp [Dsc.inR]
  · rw [if_neg e]
    by_cases h : j < s.put
    · simp [h, show j < s.put + 1 by omega]
    · simp [h, show ¬ j < s.put + 1 by omega]
def finS (s : RSt) (k : Nat) (st : Int) : RSt := ⟨s.put, s.taken, s.reaped, setD s.D k ((s.D k).fin st)⟩
theorem finS_numd {s : RSt} {k : Nat} (st : Int) (h : Numd s) : Numd (finS s k st) := by
  intro j hj
  have hj : j < s.put := hj
  unfold finS; dsimp only; unfold setD
  by_cases e : j = k
  · rw [if_pos e]; subst e; exact ⟨(h j hj).1, fun _ => rfl⟩
  · rw [if_neg e]; exact h j hj
theorem finS_fin {s : RSt} {k : Nat} (st : Int) (hk : k < s.put) (j : Nat) : fin (finS s k st) j = if j = k then true else fin s j := by
  unfold fin finS; dsimp only; unfold setD
  by_cases e : j = k
  · rw [if_pos e, if_pos e]; subst e; simp [hk, Dsc.fin]
  · rw [if_neg e, if_neg e]
theorem walk (a : Int) (A : Option Addr) (q cap : Nat) (E : Nat → RDo) (w : World) (ba : 0 ≤ a ∧ a ≤ 255) (hm : q ≤ maxLen) (rd : Rs w A q E) :
    Calls Try.prog 4 #[.int .u8 a, .slice A q cap] w fun r w' => r = .returned (.bool true) ∧ Below w.heap.size w w' := by
  unfold maxLen at hm
  obtain ⟨n, hN⟩ : ∃ n : Nat, 1 + a % 64 = (n : Int) := ⟨(1 + a % 64).toNat, by omega⟩
  have h0 : 1 ≤ n := by omega
  have hn : n ≤ 64 := by omega
  have RD := Lib.hid rd
  have HN := Lib.hid hN
  obtain ⟨iB, hiB, hzB, hsB, hbB⟩ := any_parts Try.infoBo
  have mk : ∀ W : World, (Instr.makeSlice 52 (.int .i64 152) (.int .i64 152)).run Try.prog W = .ok (.slice (some ⟨W.heap.size, 0, none⟩) 152 152) (W.alloc (.cells (madeCells #[.bool false] 152) 4)) := fun W => run_make_rowN (P := Try.prog) 52 4 iB (.bool false) Try.underlying52 hiB hzB rfl hsB .i64 .i64 152 (by rw [hbB]; omega) (by omega) W
  clear rd hN
  go_enter Try.func4, Try.ntmps4
  go_wp2_with fail
  refine (awake_o (St.begin w)).mono ?_
  rintro r w1 ⟨rfl, s1⟩
  go_wp2_with fail
  rw [HN.out]
  refine (New_o s1 h0 hn).mono ?_
  rintro r w2 ⟨p, rfl, s2⟩
  have s3 : St w None (w2.alloc (.cells (madeCells #[.bool false] 152) 4)) [RingR p n RSt.new, ArrR w2.heap.size 4 152 (fun j => .bool (fin RSt.new j))] := by
    have h : St w None _ [_, _] := s2.made_row 4 152 (.bool false)
    exact h.arr_like 1 rfl (V' := fun j => .bool (fin RSt.new j)) fun j hj => by simp [fin, RSt.new]
  obtain ⟨g, hg⟩ : ∃ g, w2.heap.size = g := ⟨_, rfl⟩
  rw [hg] at s3
  have S3 := Lib.hid s3
  clear s1 s2 s3
  go_wp2_with fail
  go_loopw [7, 8, 9, 11] (fun x7 x8 x9 i wr => ∃ (k : Nat) (s : RSt), k ≤ q ∧ k ≤ 150 ∧ i = .int .i64 k ∧ x7 = .int .i64 s.put ∧ x8 = .int .i64 s.taken ∧ x9 = .int .i64 s.reaped ∧ s.ok n ∧ s.fine ∧ s.put ≤ k ∧ Numd s ∧ St w None wr [RingR p n s, ArrR g 4 152 (fun j => .bool (fin s j))]) (fun _ _ _ i _ => q - (intOf i).toNat)
  case atStart => exact ⟨0, RSt.new, by omega, by omega, rfl, rfl, rfl, rfl, RSt.new_ok h0 hn, RSt.new_fine, Nat.le_refl _, (fun j hj => absurd hj (by show ¬ j < 0; omega)), S3.out⟩
  case round =>
    clear S3 hg mk
    obtain ⟨k, s, hk, hk2, rfl, rfl, rfl, rfl, hok, hfine, hput, hnum, sr⟩ := hrel
    have hr' := hok.r
    have ht' := hok.t
    have hp' := hok.p
    by_cases hlt : k < q
    case neg =>
      have t1 : decide ((s.reaped : Int) ≤ (s.taken : Int)) = true := decide_eq_true (by omega)
      have t2 : decide ((s.taken : Int) ≤ (s.put : Int)) = true := decide_eq_true (by omega)
      have t1' : decide (s.reaped ≤ s.taken) = true := decide_eq_true (by omega)
      have t2' : decide (s.taken ≤ s.put) = true := decide_eq_true (by omega)
      go_wp2
      go_ret
      exact ⟨rfl, sr.below⟩
    by_cases hlt2 : k < 150
    case neg =>
      have t1 : decide ((s.reaped : Int) ≤ (s.taken : Int)) = true := decide_eq_true (by omega)
      have t2 : decide ((s.taken : Int) ≤ (s.put : Int)) = true := decide_eq_true (by omega)
      have t1' : decide (s.reaped ≤ s.taken) = true := decide_eq_true (by omega)
      have t2' : decide (s.taken ≤ s.put) = true := decide_eq_true (by omega)
      go_wp2
      go_ret
      exact ⟨rfl, sr.below⟩
    obtain ⟨ib, off, rfl, e0, e1, e2, e3, e4, e5, e6, e7, e8, e9, e10, e11⟩ := RD.out.at_ sr.below hlt
    have RC := Lib.hid (fun wr hb => RD.out.same (wr := wr) hb hlt)
    generalize E k = x at *
    have OK := Lib.hid hok
    have FN := Lib.hid hfine
    have NU := Lib.hid hnum
    have SB := Lib.hid sr
    clear sr hok hfine hnum e1 e2 e3 e4 e5 e6 e7 e8 e9
    obtain ⟨z, d, no, st⟩ := x
    dsimp only at e0 e10 e11 RC
    by_cases h0' : z = 0
    · subst h0'
      by_cases hf : s.put = s.reaped + n
      · have hw : IntKind.i64.wrap ((s.put : Int) - (s.reaped : Int)) = (n : Int) := by rw [IntWalk.i64_in _ ⟨by omega, by omega⟩]; omega
        have hw6 : wrap64 ((s.put : Int) - (s.reaped : Int)) = (n : Int) := by rw [IntWalk.wrap64_in _ ⟨by omega, by omega⟩]; omega
        have hwn : (n : Int) = 1 + a % 64 := HN.out.symm
        have PU := Lib.hid (Put_o SB.out 0 rfl OK.out (dN s.put) (dN_fits (by omega)) 0 4 (Or.inr (Or.inl ⟨dN_may (by omega), hf, rfl, rfl, rfl⟩)) (by omega))
        unfold dN Dsc.v at PU
        dsimp only at PU
        have zz : ((n : Int) == 1 + a % 64) = true := beq_iff_eq.2 (by omega)
        have zz2 : ((n : Int) != 1 + a % 64) = false := by simp [bne, zz]
        clear hf hwn
        go_wp2_with fail
        refine PU.out.mono ?_
        rintro r' w6 ⟨rfl, s6⟩
        go_wp2_with fail
        go_roundw
        case rel => exact ⟨k + 1, s, by omega, by omega, by go_num, rfl, rfl, rfl, OK.out, FN.out, by omega, NU.out, s6⟩
        case measure => simp [intOf]; omega
      · have hP : PutP n s (dN s.put) s.put 0 (putS s) := Or.inr (Or.inr ⟨dN_may (by omega), by omega, rfl, rfl, rfl⟩)
        have HO := Lib.hid (hP.fine_ok OK.out FN.out (by omega))
        have PU := Lib.hid (Put_o SB.out 0 rfl OK.out (dN s.put) (dN_fits (by omega)) s.put 0 hP (by omega))
        unfold dN Dsc.v at PU
        dsimp only at PU
        clear hP hf
        go_wp2_with fail
        refine PU.out.mono ?_
        rintro r' w6 ⟨rfl, s6⟩
        have S7 := Lib.hid (s6.arr_like 1 rfl (V' := fun j => .bool (fin (putS s) j)) fun j hj => by show Value.bool (fin (putS s) j) = Value.bool (fin s j); rw [putS_fin])
        clear s6 PU
        go_wp2_with fail
        go_roundw
        case rel => exact ⟨k + 1, putS s, by omega, by omega, by go_num, (show _ = Value.int .i64 ((s.put + 1 : Nat) : Int) by go_num), rfl, rfl, HO.out.1, HO.out.2.1, by show s.put + 1 ≤ k + 1; omega, putS_numd NU.out, S7.out⟩
        case measure => simp [intOf]; omega
    have z0 : (z == 0) = false := beq_eq_false_iff_ne.2 h0'
    by_cases h1 : z = 1
    · subst h1
      by_cases hf : s.taken = s.put
      · have TK := Lib.hid (Take_o SB.out 0 rfl OK.out 0 5 dZ (Or.inl ⟨hf, rfl, rfl, rfl, rfl⟩))
        unfold Dsc.v dZ at TK
        dsimp only at TK
        have zz : ((s.taken : Int) == (s.put : Int)) = true := beq_iff_eq.2 (by omega)
        have zz' : (s.taken == s.put) = true := beq_iff_eq.2 (by omega)
        have zz2 : ((s.taken : Int) != (s.put : Int)) = false := by simp [bne, zz]
        clear hf
        go_wp2_with fail
        refine TK.out.mono ?_
        rintro r' w6 ⟨rfl, s6⟩
        have S7 := Lib.hid (s6.alloc (.cells #[.int .i64 0, .int .i64 0, .int .i64 0, .int .u64 0, .int .i64 0, .int .i64 0, .bool false, .bool false, .int .i64 0] 36))
        clear s6 TK
        go_wp2_with fail
        go_roundw
        case rel => exact ⟨k + 1, s, by omega, by omega, by go_num, rfl, rfl, rfl, OK.out, FN.out, by omega, NU.out, S7.out⟩
        case measure => simp [intOf]; omega
      · have hP : TakeP s s.taken (s.D s.taken) 0 ⟨s.put, s.taken + 1, s.reaped, s.D⟩ := Or.inr ⟨by omega, rfl, rfl, rfl, rfl⟩
        have HO := Lib.hid (hP.fine_ok OK.out FN.out)
        have TK := Lib.hid (Take_o SB.out 0 rfl OK.out _ _ _ hP)
        have hreq := (NU.out s.taken (by omega)).1
        obtain ⟨o, ho⟩ : ∃ o, s.D s.taken = o := ⟨_, rfl⟩
        rw [ho] at TK hreq
        obtain ⟨oop, oreq, osl, ogen, ofr, olen, odv, odn, ost⟩ := o
        dsimp only at hreq
        subst hreq
        unfold Dsc.v at TK
        dsimp only at TK
        clear hP hf ho
        go_wp2_with fail
        refine TK.out.mono ?_
        rintro r' w6 ⟨rfl, s6⟩
        have S7 := Lib.hid (show St w None (w6.alloc (.cells #[.int .i64 oop, .int .i64 s.taken, .int .i64 osl, .int .u64 ogen, .int .i64 ofr, .int .i64 olen, .bool odv, .bool odn, .int .i64 ost] 36)) [RingR p n ⟨s.put, s.taken + 1, s.reaped, s.D⟩, ArrR g 4 152 (fun j => .bool (fin s j))] from s6.alloc _)
        clear s6 TK
        go_wp2_with fail
        go_roundw
        case rel => exact ⟨k + 1, ⟨s.put, s.taken + 1, s.reaped, s.D⟩, by omega, by omega, by go_num, rfl, (show _ = Value.int .i64 ((s.taken + 1 : Nat) : Int) by go_num), rfl, HO.out.1, HO.out.2.1, by show s.put ≤ k + 1; omega, NU.out, S7.out⟩
        case measure => simp [intOf]; omega
    have z1 : (z == 1) = false := beq_eq_false_iff_ne.2 h1
    by_cases h2 : z = 2
    · subst h2
      obtain ⟨f, s', hP⟩ := finP_ex s no st
      have hc : (f ≠ 0 ∧ s' = s) ∨ ∃ j : Nat, (j : Int) = no ∧ s.reaped ≤ j ∧ j < s.taken ∧ (s.D j).dn = false ∧ f = 0 ∧ s' = finS s j st := by
        rcases hP with ⟨_, rfl, h⟩ | ⟨_, _, rfl, h⟩ | ⟨_, g1, g2, g3, rfl, h⟩
        · exact Or.inl ⟨by omega, h⟩
        · exact Or.inl ⟨by omega, h⟩
        · exact Or.inr ⟨no.toNat, by omega, by omega, by omega, g3, rfl, h⟩
      have HO := Lib.hid (hP.fine_ok OK.out FN.out)
      have HP := Lib.hid hP
      clear hP
      rcases hc with ⟨hf, rfl⟩ | ⟨j, rfl, j0, j1, jd, rfl, rfl⟩
      · have zf : (f == 0) = false := beq_eq_false_iff_ne.2 hf
        clear hf
        go_wp2_with fail
        go_region_held3 (fun w' => w'.cell? ⟨ib, off + k * 12 + 10, none⟩ = some (.int .i64 no) ∧ w'.cell? ⟨ib, off + k * 12 + 11, none⟩ = some (.int .i64 st)) (go_keep)
          (first
            | (go_at_call 14; refine (Finish_o SB.out.drew 0 rfl OK.out no st f HP.out).mono ?_; rintro r' w6 ⟨rfl, s6⟩; have S6 := Lib.hid s6; have q6 := RC.out w6 s6.below; clear s6))
        go_wp2_with fail
        go_roundw
        case rel => exact ⟨k + 1, s', by omega, by omega, by go_num, rfl, rfl, rfl, OK.out, FN.out, by omega, NU.out, S6.out⟩
        case measure => simp [intOf]; omega
      · have t3 : decide ((j : Int) < (s.reaped : Int)) = false := decide_eq_false (by omega)
        have t3' : decide (j < s.reaped) = false := decide_eq_false (by omega)
        have t4 : decide ((s.taken : Int) ≤ (j : Int)) = false := decide_eq_false (by omega)
        have t4' : decide (s.taken ≤ j) = false := decide_eq_false (by omega)
        have hfj : fin s j = false := by unfold fin; rw [jd]; simp
        have HFJ := Lib.hid hfj
        have FJ := Lib.hid (fun i => finS_fin (s := s) (k := j) st (by omega) i)
        clear jd hfj
        go_wp2_with fail
        go_region_held3 (fun w' => w'.cell? ⟨ib, off + k * 12 + 10, none⟩ = some (.int .i64 (j : Int)) ∧ w'.cell? ⟨ib, off + k * 12 + 11, none⟩ = some (.int .i64 st)) (go_keep)
          (first
            | (go_at_call 14; refine (Finish_o SB.out.drew 0 rfl OK.out j st 0 HP.out).mono ?_; rintro r' w6 ⟨rfl, s6⟩; have S6 := Lib.hid s6; have q6 := RC.out w6 s6.below; clear s6))
        have q7 := RC.out w6 S6.out.below
        obtain ⟨q8, q9⟩ := q7
        have v1 := S6.out.arr_cell 1 rfl (k := j) (by omega)
        have v2 := S6.out.arr_frozen 1 rfl j
        rw [HFJ.out] at v1
        have s8 := (S6.out.arr_set 1 rfl (k := j) (by omega) (.bool true)).arr_like 1 rfl (V' := fun i => .bool (fin (finS s j st) i)) fun i hi => by
          show Value.bool (fin (finS s j st) i) = if i = j then Value.bool true else Value.bool (fin s i)
          rw [FJ.out]; split <;> rfl
        have S8 := Lib.hid s8
        clear s8 q6 S6
        go_wp2_with fail
        go_roundw
        case rel => exact ⟨k + 1, finS s j st, by omega, by omega, by go_num, rfl, rfl, rfl, HO.out.1, HO.out.2.1, by show s.put ≤ k + 1; omega, finS_numd st NU.out, S8.out⟩
        case measure => simp [intOf]; omega
    have z2 : (z == 2) = false := beq_eq_false_iff_ne.2 h2
    by_cases h3 : z = 3
    · subst h3
      by_cases hf : s.reaped = s.put
      · have TK := Lib.hid (Reap_o SB.out 0 rfl OK.out dZ 5 (Or.inl ⟨hf, rfl, rfl, rfl⟩))
        unfold Dsc.v dZ at TK
        dsimp only at TK
        have zz : decide ((s.reaped : Int) < (s.put : Int)) = false := decide_eq_false (by omega)
        have zz' : decide (s.reaped < s.put) = false := decide_eq_false (by omega)
        clear hf
        go_wp2_with fail
        refine TK.out.mono ?_
        rintro r' w6 ⟨rfl, s6⟩
        have S7 := Lib.hid (s6.alloc (.cells #[.int .i64 0, .int .i64 0, .int .i64 0, .int .u64 0, .int .i64 0, .int .i64 0, .bool false, .bool false, .int .i64 0] 36))
        clear s6 TK
        go_wp2_with fail
        go_roundw
        case rel => exact ⟨k + 1, s, by omega, by omega, by go_num, rfl, rfl, rfl, OK.out, FN.out, by omega, NU.out, S7.out⟩
        case measure => simp [intOf]; omega
      have hlr : s.reaped < s.put := by omega
      cases hd : (s.D s.reaped).dn with
      | false =>
        have TK := Lib.hid (Reap_o SB.out 0 rfl OK.out dZ 10 (Or.inr (Or.inl ⟨hlr, hd, rfl, rfl, rfl⟩)))
        unfold Dsc.v dZ at TK
        dsimp only at TK
        have zz : decide ((s.reaped : Int) < (s.put : Int)) = true := decide_eq_true (by omega)
        have zz' : decide (s.reaped < s.put) = true := decide_eq_true (by omega)
        have hfj : fin s s.reaped = false := by unfold fin; rw [hd]; simp
        have HFJ := Lib.hid hfj
        clear hf hd hfj
        go_wp2_with fail
        refine TK.out.mono ?_
        rintro r' w6 ⟨rfl, s6⟩
        have s7 := s6.alloc (.cells #[.int .i64 0, .int .i64 0, .int .i64 0, .int .u64 0, .int .i64 0, .int .i64 0, .bool false, .bool false, .int .i64 0] 36)
        have v1 := s7.arr_cell 1 rfl (k := s.reaped) (by omega)
        rw [HFJ.out] at v1
        have S7 := Lib.hid s7
        clear s6 s7 TK
        go_wp2_with fail
        go_roundw
        case rel => exact ⟨k + 1, s, by omega, by omega, by go_num, rfl, rfl, rfl, OK.out, FN.out, by omega, NU.out, S7.out⟩
        case measure => simp [intOf]; omega
      | true =>
        have hP : ReapP s (s.D s.reaped) 0 ⟨s.put, s.taken, s.reaped + 1, s.D⟩ := Or.inr (Or.inr ⟨hlr, hd, rfl, rfl, rfl⟩)
        have HO := Lib.hid (hP.fine_ok OK.out FN.out)
        have TK := Lib.hid (Reap_o SB.out 0 rfl OK.out _ _ hP)
        have hreq := (NU.out s.reaped hlr).1
        have hdv := (NU.out s.reaped hlr).2 hd
        have hfj : fin s s.reaped = true := by unfold fin; rw [hd]; simp [hlr]
        have HFJ := Lib.hid hfj
        obtain ⟨o, ho⟩ : ∃ o, s.D s.reaped = o := ⟨_, rfl⟩
        rw [ho] at TK hreq hdv
        obtain ⟨oop, oreq, osl, ogen, ofr, olen, odv, odn, ost⟩ := o
        dsimp only at hreq hdv
        subst hreq hdv
        unfold Dsc.v at TK
        dsimp only at TK
        clear hP hf ho hd hfj
        go_wp2_with fail
        refine TK.out.mono ?_
        rintro r' w6 ⟨rfl, s6⟩
        have s7 : St w None (w6.alloc (.cells #[.int .i64 oop, .int .i64 s.reaped, .int .i64 osl, .int .u64 ogen, .int .i64 ofr, .int .i64 olen, .bool false, .bool odn, .int .i64 ost] 36)) [RingR p n ⟨s.put, s.taken, s.reaped + 1, s.D⟩, ArrR g 4 152 (fun j => .bool (fin s j))] := s6.alloc _
        have v1 := s7.arr_cell 1 rfl (k := s.reaped) (by omega)
        rw [HFJ.out] at v1
        have S7 := Lib.hid s7
        clear s6 s7 TK
        go_wp2_with fail
        go_roundw
        case rel => exact ⟨k + 1, ⟨s.put, s.taken, s.reaped + 1, s.D⟩, by omega, by omega, by go_num, rfl, rfl, (show _ = Value.int .i64 ((s.reaped + 1 : Nat) : Int) by go_num), HO.out.1, HO.out.2.1, by show s.put ≤ k + 1; omega, NU.out, S7.out⟩
        case measure => simp [intOf]; omega
    have z3 : (z == 3) = false := beq_eq_false_iff_ne.2 h3
    go_wp2_with fail
    go_roundw
    case rel => exact ⟨k + 1, s, by omega, by omega, by go_num, rfl, rfl, rfl, OK.out, FN.out, by omega, NU.out, SB.out⟩
    case measure => simp [intOf]; omega

set_option maxRecDepth 100000 in
theorem lifted (os : Os) (started : os.Started) (H : Type) (enc : TypeId × Value → H) :
    ReturnsInHanded {} Try.checked os 4 .any (Rows.ringOrderSpec.pre6 enc Try.prog Try.f4 Rows.ringOrderRow.domain false) (Rows.ringOrderSpec.post enc Try.prog Try.f4 false true false false) := by
  refine law_lifted (C := Try.checked) (tb := 4) own started (by kernel_rfl) Try.func4
    (ChangeSpec.witness6 (enc := enc) (C := Try.checked) false ⟨#[], #[.int .u8 0, .slice none 0 0], []⟩ 8 (by kernel_rfl) (by kernel_rfl) (by kernel_rfl) (by kernel_rfl)) laid (by kernel_rfl) (by kernel_rfl) Try.underlying4 rfl ?_
  intro W base args ds ps hval0 hA0 hlt
  have hval : ∀ (j : Nat) t v, Try.f4.params[j]? = some t → args[j]? = some v → Value.okWide Try.prog W .any base t v := hval0
  have hA : DataW.TrodAll enc Try.prog W 0 (fun _ => true) true Try.f4.params.toList args.toList ds ps := hA0
  clear hA0 hval0
  rw [Try.params4] at hA hval
  obtain ⟨v0, vs0, d0, ds0, p0, q0, hargs, rfl, rfl, h0, r0⟩ := trodAll_cons hA
  obtain ⟨v1, vs1, d1, ds1, p1, q1, rfl, rfl, rfl, h1, r1⟩ := trodAll_cons r0
  obtain ⟨rfl, rfl, rfl⟩ := trodAll_nil r1
  obtain rfl : args = #[v0, v1] := by cases args; simp_all
  obtain ⟨a0, rfl, rfl, rfl, w0⟩ := open_int Try.underlying5 (hval 0 5 v0 rfl rfl) h0
  obtain ⟨A1, n1, cap1, V1, rfl, le1, mx1, rd1, lf1⟩ := open_slice_spots (m := 12) (d := 20) (l := [(0, 3), (1, 3), (2, 3), (3, 3), (4, 32), (5, 3), (6, 3), (7, 4), (8, 4), (9, 3), (10, 3), (11, 3)]) Try.underlying22 (by kernel_rfl) (by decide) (by kernel_rfl) (hval 1 22 v1 rfl rfl) h1
  have f1_0 := fun j hj => leaf_int Try.underlying3 (lf1 0 3 (by simp) j hj)
  have f1_1 := fun j hj => leaf_int Try.underlying3 (lf1 1 3 (by simp) j hj)
  have f1_2 := fun j hj => leaf_int Try.underlying3 (lf1 2 3 (by simp) j hj)
  have f1_3 := fun j hj => leaf_int Try.underlying3 (lf1 3 3 (by simp) j hj)
  have f1_4 := fun j hj => leaf_int Try.underlying32 (lf1 4 32 (by simp) j hj)
  have f1_5 := fun j hj => leaf_int Try.underlying3 (lf1 5 3 (by simp) j hj)
  have f1_6 := fun j hj => leaf_int Try.underlying3 (lf1 6 3 (by simp) j hj)
  have f1_7 := fun j hj => leaf_bool Try.underlying4 (lf1 7 4 (by simp) j hj)
  have f1_8 := fun j hj => leaf_bool Try.underlying4 (lf1 8 4 (by simp) j hj)
  have f1_9 := fun j hj => leaf_int Try.underlying3 (lf1 9 3 (by simp) j hj)
  have f1_10 := fun j hj => leaf_int Try.underlying3 (lf1 10 3 (by simp) j hj)
  have f1_11 := fun j hj => leaf_int Try.underlying3 (lf1 11 3 (by simp) j hj)
  refine ⟨⟨rfl, rfl, rfl⟩, ?_⟩
  obtain ⟨E, hE⟩ := Go.Deep.choose_lt (n := n1) (p := fun j (x : RDo) => (∀ i, i < 12 → V1 j i = x.v i) ∧ x.d.fits) (fun j hj => by
    obtain ⟨x0, h0, w0⟩ := f1_0 j hj
    obtain ⟨x1, h1, w1⟩ := f1_1 j hj
    obtain ⟨x2, h2, w2⟩ := f1_2 j hj
    obtain ⟨x3, h3, w3⟩ := f1_3 j hj
    obtain ⟨x4, h4, w4⟩ := f1_4 j hj
    obtain ⟨x5, h5, w5⟩ := f1_5 j hj
    obtain ⟨x6, h6, w6⟩ := f1_6 j hj
    obtain ⟨x7, h7⟩ := f1_7 j hj
    obtain ⟨x8, h8⟩ := f1_8 j hj
    obtain ⟨x9, h9, w9⟩ := f1_9 j hj
    obtain ⟨x10, h10, -⟩ := f1_10 j hj
    obtain ⟨x11, h11, -⟩ := f1_11 j hj
    refine ⟨⟨x0, ⟨x1, x2, x3, x4, x5, x6, x7, x8, x9⟩, x10, x11⟩, fun i hi => ?_, bounds_i64 w1, bounds_i64 w2, bounds_i64 w3, bounds_u64 w4, bounds_i64 w5, bounds_i64 w6, bounds_i64 w9⟩
    match i, hi with
    | 0, _ => exact h0
    | 1, _ => exact h1
    | 2, _ => exact h2
    | 3, _ => exact h3
    | 4, _ => exact h4
    | 5, _ => exact h5
    | 6, _ => exact h6
    | 7, _ => exact h7
    | 8, _ => exact h8
    | 9, _ => exact h9
    | 10, _ => exact h10
    | 11, _ => exact h11)
  exact walk a0 A1 n1 cap1 E W (bounds_u8 w0) (by omega) ⟨fun h => by
    obtain ⟨b, off, e, hb, hc⟩ := rd1 h
    exact ⟨b, off, e, hb, fun j hj i hi => by rw [hc j hj i hi, (hE j hj).1 i hi]⟩, fun j hj => (hE j hj).2⟩

theorem over : Rows.ringOrderRow.holds Try.pinned (OpenSpec.ofChange Rows.ringOrderSpec) :=
  OpenClaim.holds_of_wide 4 Try.f4 rfl rfl rfl rfl rfl rfl rfl ⟨rfl, rfl, rfl, rfl, rfl⟩ rfl rfl rfl rfl rfl (by kernel_rfl) Try.func4 (by kernel_rfl)
    (of_decide_eq_true (by kernel_rfl)) (by unfold Func.isWrapper; first | (rw [if_pos (by decide +kernel)]; kernel_rfl) | (rw [if_neg (by decide +kernel)]; exact ⟨rfl, rfl⟩))
    (fun os started H enc _ => lifted os started H enc)
theorem proved : Rows.RingOrderSaid := over
#print axioms proved
end Go.Proofs.Ytboepnfekfhppaa.ringOrder
