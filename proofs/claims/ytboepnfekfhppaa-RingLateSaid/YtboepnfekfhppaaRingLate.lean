/-
  For every order RingLate answers true, and changes nothing: descriptors are reaped in the order in which they were put, however they are finished, and the first that isn't finished stops it. No condition.
-/
import Derived.Test.YtboepnfekfhppaaRows
import Derived.Test.YtboepnfekfhppaaFr
import Derived.Test.YtboepnfekfhppaaRingX
import Derived.Test.YtboepnfekfhppaaOpen
namespace Go.Proofs.Ytboepnfekfhppaa.ringLate
open Go.ChangeShapes Go.WideShapes Go.ChangeAt Go.RowKit
set_option linter.unusedVariables false
theorem own : ownKnob Try.prog.godebug = none := by kernel_rfl
theorem laid : laidOutB Try.prog = true := by kernel_rfl
set_option maxRecDepth 100000
set_option maxHeartbeats 4000000
theorem Try.infoBo : (Try.prog.info? 4).map (fun i => (i.zero, i.size, i.bytes)) = some (some (.bool false), 1, 1) := by kernel_rfl
def dN (k : Nat) : Dsc := ⟨0, k, 0, 0, 0, 0, false, false, 0⟩
theorem dN_may {k : Nat} (h : k ≤ 1000) : (dN k).inR.may := by
  unfold Dsc.may Dsc.inR dN; dsimp only; refine ⟨?_, ?_, ?_, ?_, ?_, ?_, ?_, Or.inr rfl⟩ <;> omega
theorem dN_fits {k : Nat} (h : k ≤ 1000) : (dN k).fits := by unfold Dsc.fits dN; dsimp only; omega
/-- All were put and taken; each holds its number. -/
structure Lt (n : Nat) (s : RSt) : Prop where
  ok : s.ok 64
  put : s.put = n
  taken : s.taken = n
  req : ∀ j, j < n → (s.D j).req = j
  done : ∀ j, j < s.reaped → (s.D j).dn = true
theorem fine_of {n : Nat} {s : RSt} (h1 : s.put = n) (h2 : s.taken = n) : s.fine := fun k a b => by omega
def upS (s : RSt) : RSt := ⟨s.put + 1, s.taken, s.reaped, setD s.D s.put (dN s.put).inR⟩
def finS (s : RSt) (k : Nat) (st : Int) : RSt := ⟨s.put, s.taken, s.reaped, setD s.D k ((s.D k).fin st)⟩
theorem Lt.fin {n : Nat} {s : RSt} {k : Nat} {st : Int} (h : Lt n s) : Lt n (finS s k st) := by
  obtain ⟨⟨a1, a2, a3, a4, a5, a6⟩, h2, h3, h4, h5⟩ := h
  refine ⟨⟨a1, a2, a3, a4, a5, a6⟩, h2, h3, fun j hj => ?_, fun j hj => ?_⟩
  · show (setD s.D k _ j).req = j
    unfold setD
    by_cases e : j = k
    · rw [if_pos e]; subst e; exact h4 j hj
    · rw [if_neg e]; exact h4 j hj
  · show (setD s.D k _ j).dn = true
    unfold setD
    by_cases e : j = k
    · rw [if_pos e]; rfl
    · rw [if_neg e]; exact h5 j hj
theorem finS_dn (s : RSt) (k : Nat) (st : Int) (j : Nat) : ((finS s k st).D j).dn = if j = k then true else (s.D j).dn := by
  show (setD s.D k _ j).dn = _
  unfold setD
  by_cases e : j = k
  · rw [if_pos e, if_pos e]; rfl
  · rw [if_neg e, if_neg e]
theorem walk (A : Option Addr) (n cap : Nat) (f0 : Nat → Int) (w : World) (hm : n ≤ maxLen) (rd : Rd w A n (fun j => .int .u8 (f0 j))) (hf0 : ∀ j, 0 ≤ f0 j ∧ f0 j ≤ 255) :
    Calls Try.prog 7 #[.slice A n cap] w fun r w' => r = .returned (.bool true) ∧ Below w.heap.size w w' := by
  unfold maxLen at hm
  have RD := Lib.hid rd
  have F0 := Lib.hid hf0
  clear rd hf0
  by_cases hbig : 64 < n
  · have d1 : decide (64 < (n : Int)) = true := decide_eq_true (by omega)
    have d1' : decide (64 < n) = true := decide_eq_true hbig
    go_enter Try.func7, Try.ntmps7
    go_wp2_with fail
    refine (awake_o (St.begin w)).mono ?_
    rintro r w1 ⟨rfl, s1⟩
    go_wp2_with fail
    refine (New_o (n := 64) s1 (by omega) (by omega)).mono ?_
    rintro r w2 ⟨p, rfl, s2⟩
    go_wp2_with fail
    go_ret
    exact ⟨rfl, s2.below⟩
  have d1 : decide (64 < (n : Int)) = false := decide_eq_false (by omega)
  have d1' : decide (64 < n) = false := decide_eq_false hbig
  obtain ⟨iB, hiB, hzB, hsB, hbB⟩ := any_parts Try.infoBo
  have mk := fun W => run_make_rowN (P := Try.prog) 52 4 iB (.bool false) Try.underlying52 hiB hzB rfl hsB .i64 .i64 (n + 1) (by rw [hbB]; omega) (by omega) W
  rw [show ((n + 1 : Nat) : Int) = (n : Int) + 1 by omega] at mk
  go_enter Try.func7, Try.ntmps7
  go_wp2_with fail
  refine (awake_o (St.begin w)).mono ?_
  rintro r w1 ⟨rfl, s1⟩
  go_wp2_with fail
  refine (New_o (n := 64) s1 (by omega) (by omega)).mono ?_
  rintro r w2 ⟨p, rfl, s2'⟩
  have s2 : St w None w2 [RingR p 64 RSt.new] := s2'
  have S2 := Lib.hid s2
  clear s1 s2 s2'
  go_wp2_with fail
  go_loopw [6] (fun i wr => ∃ (k : Nat) (s : RSt), k ≤ n ∧ i = .int .i64 k ∧ s.ok 64 ∧ s.put = k ∧ s.taken = k ∧ s.reaped = 0 ∧ (∀ j, j < k → (s.D j).req = j ∧ (s.D j).dn = false) ∧ St w None wr [RingR p 64 s]) (fun i _ => n - (intOf i).toNat)
  case atStart => exact ⟨0, RSt.new, by omega, rfl, RSt.new_ok (by omega) (by omega), rfl, rfl, rfl, (fun j hj => absurd hj (by omega)), S2.out⟩
  case round =>
    clear S2
    obtain ⟨k, s, hk, rfl, hok, hp, ht, hr, hD, sr⟩ := hrel
    have HD := Lib.hid hD
    have OK := Lib.hid hok
    clear hD hok
    by_cases hlt : k < n
    · have hP : PutP 64 s (dN s.put) s.put 0 (upS s) := Or.inr (Or.inr ⟨dN_may (by omega), by omega, rfl, rfl, rfl⟩)
      have HO := Lib.hid (hP.ok OK.out (by omega)).1
      have PU := Lib.hid (Put_o sr 0 rfl OK.out (dN s.put) (dN_fits (by omega)) s.put 0 hP (by omega))
      have hT : TakeP (upS s) s.taken ((upS s).D s.taken) 0 ⟨s.put + 1, s.taken + 1, s.reaped, (upS s).D⟩ := Or.inr ⟨by show s.taken < s.put + 1; omega, rfl, rfl, rfl, rfl⟩
      have HT := Lib.hid hT
      have HO2 := Lib.hid (hT.ok HO.out).1
      unfold dN Dsc.v at PU
      dsimp only at PU
      rw [hp] at PU
      clear hP hT sr
      go_wp2_with fail
      refine PU.out.mono ?_
      rintro r' w6 ⟨rfl, s6⟩
      have TK := Lib.hid (Take_o s6 0 rfl HO.out _ _ _ HT.out)
      clear s6 PU
      go_wp2_with fail
      refine TK.out.mono ?_
      rintro r' w7 ⟨rfl, s7⟩
      go_wp2_with fail
      go_roundw
      case rel =>
        refine ⟨k + 1, ⟨s.put + 1, s.taken + 1, s.reaped, (upS s).D⟩, by omega, by go_num, HO2.out, by show s.put + 1 = k + 1; omega, by show s.taken + 1 = k + 1; omega, hr, fun j hj => ?_, s7⟩
        show (setD s.D s.put (dN s.put).inR j).req = j ∧ (setD s.D s.put (dN s.put).inR j).dn = false
        unfold setD
        by_cases e : j = s.put
        · rw [if_pos e]; subst e; exact ⟨rfl, rfl⟩
        · rw [if_neg e]; exact HD.out j (by omega)
      case measure => simp [intOf]; omega
    · obtain rfl : k = n := by omega
      have s3 : St w None (wr.alloc (.cells (madeCells #[.bool false] (k + 1)) 4)) [RingR p 64 s, ArrR wr.heap.size 4 (k + 1) (fun j => .bool (if j < k then (s.D j).dn else false))] := by
        have h : St w None _ [_, _] := sr.made_row 4 (k + 1) (.bool false)
        exact h.arr_like 1 rfl (V' := fun j => .bool (if j < k then (s.D j).dn else false)) fun j hj => by
          by_cases e : j < k
          · show Value.bool (if j < k then (s.D j).dn else false) = Value.bool false
            rw [if_pos e, (HD.out j e).2]
          · show Value.bool (if j < k then (s.D j).dn else false) = Value.bool false
            rw [if_neg e]
      obtain ⟨g, hg⟩ : ∃ g, wr.heap.size = g := ⟨_, rfl⟩
      rw [hg] at s3
      have LT := Lib.hid (show Lt k s from ⟨OK.out, hp, ht, fun j hj => (HD.out j hj).1, fun j hj => by omega⟩)
      have hr0 : (0 : Int) = (s.reaped : Int) := by omega
      have S3 := Lib.hid s3
      have HR0 := Lib.hid hr0
      clear sr s3 hp ht hr hlt hr0 OK HD
      go_wp2_with fail
      go_loopw [8, 9] (fun x8 i wr => ∃ (m : Nat) (s : RSt), m ≤ k ∧ i = .int .i64 m ∧ x8 = .int .i64 s.reaped ∧ Lt k s ∧ St w None wr [RingR p 64 s, ArrR g 4 (k + 1) (fun j => .bool (if j < k then (s.D j).dn else false))]) (fun _ i _ => k - (intOf i).toNat)
      case atStart => exact ⟨0, s, by omega, rfl, by rw [← HR0.out], LT.out, S3.out⟩
      case round =>
        clear S3 hg mk LT HR0
        obtain ⟨m, s, hmk, rfl, rfl, hL, sr⟩ := hrel
        have LT := Lib.hid hL
        have SR := Lib.hid sr
        clear hL
        by_cases hlt : m < k
        · obtain ⟨ib, off, rfl, hib, hrd⟩ := RD.out (by omega)
          have e0 : wr.cell? ⟨ib, off + m, none⟩ = some (.int .u8 (f0 m)) := (sr.below.cell (p := ⟨ib, off + m, none⟩) hib).trans (hrd m hlt)
          have hfb := F0.out m
          generalize f0 m = x at *
          obtain ⟨xn, rfl⟩ : ∃ xn : Nat, (xn : Int) = x := ⟨x.toNat, by omega⟩
          have hrem : Int.tmod (xn : Int) (k : Int) = ((xn % k : Nat) : Int) := by
            rw [Int.tmod_eq_emod_of_nonneg (by omega)]; exact (Int.natCast_emod xn k).symm
          have hjl := Nat.mod_lt xn (show 0 < k by omega)
          obtain ⟨j, hj⟩ : ∃ j, xn % k = j := ⟨_, rfl⟩
          rw [hj] at hrem hjl
          have hz : ((k : Int) == 0) = false := beq_eq_false_iff_ne.2 (by omega)
          have hwx : IntKind.i64.wrap (xn : Int) = (xn : Int) := IntWalk.i64_in _ ⟨by omega, by omega⟩
          have hput := LT.out.put
          have htak := LT.out.taken
          obtain ⟨dn, hdn⟩ : ∃ dn, (s.D j).dn = dn := ⟨_, rfl⟩
          obtain ⟨f, s', hP, hf⟩ : ∃ f s', FinP s j j f s' ∧ ((f = 0 ∧ dn = false ∧ s.reaped ≤ j ∧ s' = finS s j j) ∨ (f ≠ 0 ∧ s' = s ∧ (dn = true))) := by
            by_cases c1 : s.reaped ≤ j ∧ dn = false
            · exact ⟨0, _, Or.inr (Or.inr ⟨by omega, by omega, by omega, by rw [Int.toNat_natCast, hdn]; exact c1.2, rfl, rfl⟩), Or.inl ⟨rfl, c1.2, c1.1, by rw [Int.toNat_natCast]; rfl⟩⟩
            · have hdt : dn = true := by
                cases hd : dn with
                | true => rfl
                | false =>
                  have := LT.out.done j (by
                    rcases Nat.lt_or_ge j s.reaped with h | h
                    · exact h
                    · exact absurd ⟨h, hd⟩ c1)
                  rw [hdn, hd] at this; cases this
              exact ⟨12, s, Or.inr (Or.inl ⟨by omega, Or.inr (Or.inr (by rw [Int.toNat_natCast, hdn]; exact hdt)), rfl, rfl⟩), Or.inr ⟨by omega, rfl, hdt⟩⟩
          have HL2 : Lt k s' := by
            rcases hf with ⟨_, _, _, rfl⟩ | ⟨_, rfl, _⟩
            · exact LT.out.fin
            · exact LT.out
          have hreap : s'.reaped = s.reaped := by
            rcases hf with ⟨_, _, _, rfl⟩ | ⟨_, rfl, _⟩ <;> rfl
          have hdn' : ∀ i, (s'.D i).dn = if i = j then true else (s.D i).dn := fun i => by
            rcases hf with ⟨_, _, _, rfl⟩ | ⟨_, rfl, h⟩
            · exact finS_dn _ _ _ _
            · by_cases e : i = j
              · rw [if_pos e, e, hdn, h]
              · rw [if_neg e]
          have FN := Lib.hid (Finish_o sr 0 rfl LT.out.ok j j f hP)
          have HF := Lib.hid hf
          have HL2' := Lib.hid HL2
          have HRE := Lib.hid hreap
          have HDN := Lib.hid hdn'
          have HDD := Lib.hid hdn
          clear hP hf HL2 hreap hdn' hj hdn sr hrd
          go_wp2_with fail
          refine FN.out.mono ?_
          rintro r' w6 ⟨rfl, s6⟩
          have v1 := s6.arr_cell 1 rfl (k := j) (by omega)
          have v2 := s6.arr_frozen 1 rfl j
          rw [if_pos hjl, HDD.out] at v1
          have s7 := (s6.arr_set 1 rfl (k := j) (by omega) (.bool true)).arr_like 1 rfl (V' := fun i => .bool (if i < k then (s'.D i).dn else false)) fun i hi => by
            show Value.bool (if i < k then (s'.D i).dn else false) = if i = j then Value.bool true else Value.bool (if i < k then (s.D i).dn else false)
            rw [HDN.out]
            by_cases e : i = j
            · rw [if_pos e, if_pos e, if_pos (by omega)]
            · rw [if_neg e, if_neg e]
          have s7' : St w None _ [RingR p 64 s', ArrR g 4 (k + 1) (fun j => .bool (if j < k then (s'.D j).dn else false))] := s7
          have S7 := Lib.hid s7'
          clear s6 s7 s7' FN SR e0
          rcases HF.out with ⟨rfl, rfl, hge, -⟩ | ⟨hf, -, rfl⟩
          · have t1 : decide ((s.reaped : Int) ≤ (j : Int)) = true := decide_eq_true (by omega)
            have t1' : decide (s.reaped ≤ j) = true := decide_eq_true hge
            clear hge
            go_wp2_with fail
            rw [← HRE.out]
            go_loopw [8] (fun x8 wr => ∃ s : RSt, x8 = .int .i64 s.reaped ∧ Lt k s ∧ St w None wr [RingR p 64 s, ArrR g 4 (k + 1) (fun j => .bool (if j < k then (s.D j).dn else false))]) (fun x8 _ => k - (intOf x8).toNat)
            case atStart => exact ⟨s', rfl, HL2'.out, S7.out⟩
            case round =>
              clear S7
              obtain ⟨t, rfl, hT, sl⟩ := hrel
              have TT := Lib.hid hT
              have tp := hT.put
              have tt := hT.taken
              have tr := hT.ok.r
              have tt2 := hT.ok.t
              clear hT
              by_cases he : t.reaped = k
              · have RP := Lib.hid (Reap_o sl 0 rfl TT.out.ok dZ 5 (Or.inl ⟨by omega, rfl, rfl, rfl⟩))
                have t3 : decide ((t.reaped : Int) < (k : Int)) = false := decide_eq_false (by omega)
                have t3' : decide (t.reaped < k) = false := decide_eq_false (by omega)
                unfold Dsc.v dZ at RP
                dsimp only at RP
                clear sl he
                go_wp2_with fail
                refine RP.out.mono ?_
                rintro r' w9 ⟨rfl, s9⟩
                have S9 := Lib.hid (s9.alloc (.cells #[.int .i64 0, .int .i64 0, .int .i64 0, .int .u64 0, .int .i64 0, .int .i64 0, .bool false, .bool false, .int .i64 0] 36))
                clear s9 RP
                go_wp2_with fail
                go_roundw
                case rel => exact ⟨m + 1, t, by omega, by go_num, rfl, TT.out, S9.out⟩
                case measure => simp [intOf]; omega
              have hlr : t.reaped < k := by omega
              cases hd : (t.D t.reaped).dn with
              | false =>
                have RP := Lib.hid (Reap_o sl 0 rfl TT.out.ok dZ 10 (Or.inr (Or.inl ⟨by omega, hd, rfl, rfl, rfl⟩)))
                have t3 : decide ((t.reaped : Int) < (k : Int)) = true := decide_eq_true (by omega)
                have t3' : decide (t.reaped < k) = true := decide_eq_true hlr
                have HD := Lib.hid hd
                unfold Dsc.v dZ at RP
                dsimp only at RP
                clear sl he hd
                go_wp2_with fail
                refine RP.out.mono ?_
                rintro r' w9 ⟨rfl, s9⟩
                have s10 := s9.alloc (.cells #[.int .i64 0, .int .i64 0, .int .i64 0, .int .u64 0, .int .i64 0, .int .i64 0, .bool false, .bool false, .int .i64 0] 36)
                have y1 := s10.arr_cell 1 rfl (k := t.reaped) (by omega)
                rw [if_pos hlr, HD.out] at y1
                have S10 := Lib.hid s10
                clear s9 s10 RP
                go_wp2_with fail
                go_roundw
                case rel => exact ⟨m + 1, t, by omega, by go_num, rfl, TT.out, S10.out⟩
                case measure => simp [intOf]; omega
              | true =>
                have hP : ReapP t (t.D t.reaped) 0 ⟨t.put, t.taken, t.reaped + 1, t.D⟩ := Or.inr (Or.inr ⟨by omega, hd, rfl, rfl, rfl⟩)
                have RP := Lib.hid (Reap_o sl 0 rfl TT.out.ok _ _ hP)
                have HT2 := Lib.hid (show Lt k ⟨t.put, t.taken, t.reaped + 1, t.D⟩ from ⟨(hP.ok TT.out.ok (fine_of tp tt)).1, tp, tt, TT.out.req, fun j hj => by
                  have hj : j < t.reaped + 1 := hj
                  by_cases e : j = t.reaped
                  · rw [e]; exact hd
                  · exact TT.out.done j (by omega)⟩)
                have hreq := TT.out.req t.reaped hlr
                have HD := Lib.hid hd
                obtain ⟨o, ho⟩ : ∃ o, t.D t.reaped = o := ⟨_, rfl⟩
                rw [ho] at RP hreq
                obtain ⟨oop, oreq, osl, ogen, ofr, olen, odv, odn, ost⟩ := o
                dsimp only at hreq
                subst hreq
                unfold Dsc.v at RP
                dsimp only at RP
                clear hP sl he hd ho
                go_wp2_with fail
                refine RP.out.mono ?_
                rintro r' w9 ⟨rfl, s9⟩
                have s10 : St w None (w9.alloc (.cells #[.int .i64 oop, .int .i64 t.reaped, .int .i64 osl, .int .u64 ogen, .int .i64 ofr, .int .i64 olen, .bool odv, .bool odn, .int .i64 ost] 36)) [RingR p 64 ⟨t.put, t.taken, t.reaped + 1, t.D⟩, ArrR g 4 (k + 1) (fun j => .bool (if j < k then (t.D j).dn else false))] := s9.alloc _
                have y1 := s10.arr_cell 1 rfl (k := t.reaped) (by omega)
                rw [if_pos hlr, HD.out] at y1
                have S10 := Lib.hid s10
                clear s9 s10 RP
                go_wp2_with fail
                go_roundw
                case rel => exact ⟨⟨t.put, t.taken, t.reaped + 1, t.D⟩, (show _ = Value.int .i64 ((t.reaped + 1 : Nat) : Int) by go_num), HT2.out, S10.out⟩
                case measure => simp [intOf]; omega
          · have zf : (f == 0) = false := beq_eq_false_iff_ne.2 hf
            clear hf
            go_wp2_with fail
            rw [← HRE.out]
            go_loopw [8] (fun x8 wr => ∃ s : RSt, x8 = .int .i64 s.reaped ∧ Lt k s ∧ St w None wr [RingR p 64 s, ArrR g 4 (k + 1) (fun j => .bool (if j < k then (s.D j).dn else false))]) (fun x8 _ => k - (intOf x8).toNat)
            case atStart => exact ⟨s', rfl, HL2'.out, S7.out⟩
            case round =>
              clear S7
              obtain ⟨t, rfl, hT, sl⟩ := hrel
              have TT := Lib.hid hT
              have tp := hT.put
              have tt := hT.taken
              have tr := hT.ok.r
              have tt2 := hT.ok.t
              clear hT
              by_cases he : t.reaped = k
              · have RP := Lib.hid (Reap_o sl 0 rfl TT.out.ok dZ 5 (Or.inl ⟨by omega, rfl, rfl, rfl⟩))
                have t3 : decide ((t.reaped : Int) < (k : Int)) = false := decide_eq_false (by omega)
                have t3' : decide (t.reaped < k) = false := decide_eq_false (by omega)
                unfold Dsc.v dZ at RP
                dsimp only at RP
                clear sl he
                go_wp2_with fail
                refine RP.out.mono ?_
                rintro r' w9 ⟨rfl, s9⟩
                have S9 := Lib.hid (s9.alloc (.cells #[.int .i64 0, .int .i64 0, .int .i64 0, .int .u64 0, .int .i64 0, .int .i64 0, .bool false, .bool false, .int .i64 0] 36))
                clear s9 RP
                go_wp2_with fail
                go_roundw
                case rel => exact ⟨m + 1, t, by omega, by go_num, rfl, TT.out, S9.out⟩
                case measure => simp [intOf]; omega
              have hlr : t.reaped < k := by omega
              cases hd : (t.D t.reaped).dn with
              | false =>
                have RP := Lib.hid (Reap_o sl 0 rfl TT.out.ok dZ 10 (Or.inr (Or.inl ⟨by omega, hd, rfl, rfl, rfl⟩)))
                have t3 : decide ((t.reaped : Int) < (k : Int)) = true := decide_eq_true (by omega)
                have t3' : decide (t.reaped < k) = true := decide_eq_true hlr
                have HD := Lib.hid hd
                unfold Dsc.v dZ at RP
                dsimp only at RP
                clear sl he hd
                go_wp2_with fail
                refine RP.out.mono ?_
                rintro r' w9 ⟨rfl, s9⟩
                have s10 := s9.alloc (.cells #[.int .i64 0, .int .i64 0, .int .i64 0, .int .u64 0, .int .i64 0, .int .i64 0, .bool false, .bool false, .int .i64 0] 36)
                have y1 := s10.arr_cell 1 rfl (k := t.reaped) (by omega)
                rw [if_pos hlr, HD.out] at y1
                have S10 := Lib.hid s10
                clear s9 s10 RP
                go_wp2_with fail
                go_roundw
                case rel => exact ⟨m + 1, t, by omega, by go_num, rfl, TT.out, S10.out⟩
                case measure => simp [intOf]; omega
              | true =>
                have hP : ReapP t (t.D t.reaped) 0 ⟨t.put, t.taken, t.reaped + 1, t.D⟩ := Or.inr (Or.inr ⟨by omega, hd, rfl, rfl, rfl⟩)
                have RP := Lib.hid (Reap_o sl 0 rfl TT.out.ok _ _ hP)
                have HT2 := Lib.hid (show Lt k ⟨t.put, t.taken, t.reaped + 1, t.D⟩ from ⟨(hP.ok TT.out.ok (fine_of tp tt)).1, tp, tt, TT.out.req, fun j hj => by
                  have hj : j < t.reaped + 1 := hj
                  by_cases e : j = t.reaped
                  · rw [e]; exact hd
                  · exact TT.out.done j (by omega)⟩)
                have hreq := TT.out.req t.reaped hlr
                have HD := Lib.hid hd
                obtain ⟨o, ho⟩ : ∃ o, t.D t.reaped = o := ⟨_, rfl⟩
                rw [ho] at RP hreq
                obtain ⟨oop, oreq, osl, ogen, ofr, olen, odv, odn, ost⟩ := o
                dsimp only at hreq
                subst hreq
                unfold Dsc.v at RP
                dsimp only at RP
                clear hP sl he hd ho
                go_wp2_with fail
                refine RP.out.mono ?_
                rintro r' w9 ⟨rfl, s9⟩
                have s10 : St w None (w9.alloc (.cells #[.int .i64 oop, .int .i64 t.reaped, .int .i64 osl, .int .u64 ogen, .int .i64 ofr, .int .i64 olen, .bool odv, .bool odn, .int .i64 ost] 36)) [RingR p 64 ⟨t.put, t.taken, t.reaped + 1, t.D⟩, ArrR g 4 (k + 1) (fun j => .bool (if j < k then (t.D j).dn else false))] := s9.alloc _
                have y1 := s10.arr_cell 1 rfl (k := t.reaped) (by omega)
                rw [if_pos hlr, HD.out] at y1
                have S10 := Lib.hid s10
                clear s9 s10 RP
                go_wp2_with fail
                go_roundw
                case rel => exact ⟨⟨t.put, t.taken, t.reaped + 1, t.D⟩, (show _ = Value.int .i64 ((t.reaped + 1 : Nat) : Int) by go_num), HT2.out, S10.out⟩
                case measure => simp [intOf]; omega
        · obtain rfl : m = k := by omega
          go_wp2_with fail
          go_ret
          exact ⟨rfl, sr.below⟩

set_option maxRecDepth 100000 in
theorem lifted (os : Os) (started : os.Started) (H : Type) (enc : TypeId × Value → H) :
    ReturnsInHanded {} Try.checked os 7 .any (Rows.ringLateSpec.pre6 enc Try.prog Try.f7 Rows.ringLateRow.domain false) (Rows.ringLateSpec.post enc Try.prog Try.f7 false true false false) := by
  refine law_lifted (C := Try.checked) (tb := 4) own started (by kernel_rfl) Try.func7
    (ChangeSpec.witness6 (enc := enc) (C := Try.checked) false ⟨#[], #[.slice none 0 0], []⟩ 8 (by kernel_rfl) (by kernel_rfl) (by kernel_rfl) (by kernel_rfl)) laid (by kernel_rfl) (by kernel_rfl) Try.underlying4 rfl ?_
  intro W base args ds ps hval0 hA0 hlt
  have hval : ∀ (j : Nat) t v, Try.f7.params[j]? = some t → args[j]? = some v → Value.okWide Try.prog W .any base t v := hval0
  have hA : DataW.TrodAll enc Try.prog W 0 (fun _ => true) true Try.f7.params.toList args.toList ds ps := hA0
  clear hA0 hval0
  rw [Try.params7] at hA hval
  obtain ⟨v0, vs0, d0, ds0, p0, q0, hargs, rfl, rfl, h0, r0⟩ := trodAll_cons hA
  obtain ⟨rfl, rfl, rfl⟩ := trodAll_nil r0
  obtain rfl : args = #[v0] := by cases args; simp_all
  obtain ⟨A0, n0, cap0, f0, rfl, le0, mx0, wf0, rd0⟩ := open_slice_ints Try.underlying58 Try.underlying5 (by kernel_rfl) (hval 0 58 v0 rfl rfl) h0
  refine ⟨⟨rfl, rfl, rfl⟩, ?_⟩
  exact walk A0 n0 cap0 f0 W (by omega) rd0 (fun j => bounds_u8 (wf0 j))

theorem over : Rows.ringLateRow.holds Try.pinned (OpenSpec.ofChange Rows.ringLateSpec) :=
  OpenClaim.holds_of_wide 7 Try.f7 rfl rfl rfl rfl rfl rfl rfl ⟨rfl, rfl, rfl, rfl, rfl⟩ rfl rfl rfl rfl rfl (by kernel_rfl) Try.func7 (by kernel_rfl)
    (of_decide_eq_true (by kernel_rfl)) (by unfold Func.isWrapper; first | (rw [if_pos (by decide +kernel)]; kernel_rfl) | (rw [if_neg (by decide +kernel)]; exact ⟨rfl, rfl⟩))
    (fun os started H enc _ => lifted os started H enc)
theorem proved : Rows.RingLateSaid := over
#print axioms proved
end Go.Proofs.Ytboepnfekfhppaa.ringLate
