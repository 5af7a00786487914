/-
  For every cost, row of numbers and time LifeLate answers true, and changes nothing: an answer that comes when a request has come out, or a second one, is nothing. No condition.
-/
import Derived.Test.YthdhfjcgboglfaaRows
import Derived.Test.YthdhfjcgboglfaaFr
import Derived.Test.YthdhfjcgboglfaaLifeW
namespace Go.Proofs.Ythdhfjcgboglfaa.lifeLate
open Go.ChangeShapes Go.WideShapes Go.ChangeAt Go.RowKit
set_option linter.unusedVariables false
theorem own : ownKnob Try.prog.godebug = none := by kernel_rfl
theorem laid : laidOutB Try.prog = true := by kernel_rfl
set_option maxRecDepth 100000
set_option maxHeartbeats 4000000
/-- All must have come out at the same time. -/
def AllD (s : Bk) (c : Int) : Prop := s.cost = c ∧ ∀ k x, s.op k = some x → x.2 = c + 10
theorem AllD.opn {s : Bk} {c id : Int} (h : AllD s c) : AllD (s.opn id (c + 10)) c := by
  by_cases ha : opnA s id (c + 10) = 0
  · refine ⟨(cnt_opn ha).2.2.2.trans h.1, fun k x hx => ?_⟩
    rcases opn_at ha hx with h2 | rfl
    · exact h.2 k x h2
    · rfl
  · unfold Bk.opn; rw [if_neg ha]; exact h
theorem AllD.out {s : Bk} {c : Int} {f : Ft} (h : AllD s c) : AllD (s.out f) c := by
  cases hs : slotO s.op f.id with
  | none => rw [Bk.out_none hs]; exact h
  | some k => exact ⟨(cnt_out hs).2.2.2.trans h.1, fun k x hx => h.2 k x (out_at hx)⟩
theorem opn_id {s : Bk} {id d : Int} (h : opnA s id d ≠ 0) : s.opn id d = s := by unfold Bk.opn; rw [if_neg h]
theorem AllD.ans {s : Bk} {c id st : Int} {bad : Bool} (h : AllD s c) : AllD (s.ans id st bad) c := by
  unfold Bk.ans; split
  · exact h
  · exact h.out
theorem AllD.gon {s : Bk} {c u : Int} (h : AllD s c) : AllD (s.gon u) c := by
  unfold Bk.gon; split
  · exact ⟨h.1, fun k x hx => h.2 k x (opF_some.1 hx).1⟩
  · exact h
/-- An answer finds the request, or nothing is done. -/
structure Fnd (s s' : Bk) (id : Int) (q : Int) : Prop where
  y : q = 0 → (slotO s.op id).isSome = true ∧ cntO s'.op + s'.un.length = cntO s.op + s.un.length ∧ s'.un.length = s.un.length + 1 ∧ s'.now = s.now ∧ slotO s'.op id = none
  n : q ≠ 0 → q = 6 ∧ (slotO s.op id).isSome = false ∧ s' = s
theorem ansF {s : Bk} (ok : s.ok) (id st : Int) (bad : Bool) (h0 : 0 ≤ st) (h1 : st ≤ 255) : Fnd s (s.ans id st bad) id (ansA s id st) := by
  have hc : ¬ (st < 0 ∨ 255 < st) := by omega
  have e1 : ansA s id st = outA s id := if_neg hc
  have e2 : s.ans id st bad = s.out (if bad then ⟨id, 2, 2⟩ else ⟨id, 1, st⟩) := if_neg hc
  obtain ⟨f, hf, hid⟩ : ∃ f : Ft, (if bad = true then (⟨id, 2, 2⟩ : Ft) else ⟨id, 1, st⟩) = f ∧ f.id = id := ⟨_, rfl, by cases bad <;> rfl⟩
  rw [e1, e2, hf]
  cases hs : slotO s.op id with
  | none =>
    have : outA s id = 6 := by unfold outA; rw [hs]; rfl
    rw [this]
    exact ⟨fun h => absurd h (by decide), fun _ => ⟨rfl, by rw [hs]; rfl, Bk.out_none (by rw [hid]; exact hs)⟩⟩
  | some k =>
    have : outA s id = 0 := by unfold outA; rw [hs]; rfl
    rw [this]
    obtain ⟨h1, h2, h3, h4⟩ := cnt_out (s := s) (f := f) (k := k) (by rw [hid]; exact hs)
    have hl : (s.out f).un.length = s.un.length + 1 := by rw [h2, List.length_append]; rfl
    refine ⟨fun _ => ⟨by rw [hs]; rfl, by omega, hl, h3, ?_⟩, fun h => absurd rfl h⟩
    rw [Bk.out_some (f := f) (k := k) (by rw [hid]; exact hs)]
    obtain ⟨_, d, hd⟩ := slot_some hs
    show slotO (updO s.op k none) id = none
    rw [ok.U.slot_del hd id, if_pos rfl]
theorem goA_le {a u : Int} (h0 : a ≤ u) (h1 : u < 4611686018427387904) : goA a u = 0 := by unfold goA; rw [if_pos h1, if_neg (by omega)]
theorem gon_now {s : Bk} {u : Int} (hg : goA s.now u = 0) : (s.gon u).now = u ∧ (s.gon u).un = [] := by unfold Bk.gon; rw [if_pos hg]; exact ⟨rfl, rfl⟩
/-- How many come out. -/
theorem out_n {s : Bk} {c u : Int} {o : List Ft} (ok : s.ok) (h : AllD s c) (h0 : s.now ≤ u) (h1 : u < 4611686018427387904) (ho : OutP s u o) :
    (10 ≤ u → o.length = cntO s.op + s.un.length ∧ cntO (s.gon u).op = 0) ∧ (u < 10 → o.length = s.un.length ∧ cntO (s.gon u).op = cntO s.op) := by
  have hg := goA_le h0 h1
  unfold OutP at ho
  rw [if_pos hg] at ho
  obtain ⟨l, hl, rfl⟩ := ho
  have hlen : (s.un ++ fLate l).length = s.un.length + l.length := by rw [List.length_append]; unfold fLate; rw [List.length_map]
  rw [hlen]
  constructor
  · intro hu
    have hall : ∀ k x, s.op k = some x → x.2 - s.cost ≤ u := fun k x hx => by rw [h.2 k x hx, h.1]; omega
    exact ⟨by rw [late_all ok hl hall]; omega, gon_all hg hall⟩
  · intro hu
    have hno : ∀ k x, s.op k = some x → u < x.2 - s.cost := fun k x hx => by rw [h.2 k x hx, h.1]; omega
    exact ⟨by rw [late_none hl hno]; rfl, by rw [gon_same hg hno]⟩
theorem walk (a : Int) (A : Option Addr) (n cap : Nat) (f : Nat → Int) (b : Int) (w : World) (ba : 0 ≤ a ∧ a ≤ 255) (bb : 0 ≤ b ∧ b ≤ 255) (hm : n ≤ maxLen) (rd : Rd w A n (fun j => .int .u16 (f j))) (hf : ∀ j, 0 ≤ f j ∧ f j ≤ 65535) :
    Calls Try.prog 5 #[.int .u8 a, .slice A n cap, .int .u8 b] w fun r w' => r = .returned (.bool true) ∧ Below w.heap.size w w' := by
  unfold maxLen at hm
  have RD := Lib.hid rd
  have HF := Lib.hid hf
  clear rd hf
  obtain ⟨c, hc⟩ : ∃ c, 1 + a = c := ⟨_, rfl⟩
  have hc1 : 1 ≤ c ∧ c ≤ 256 := by omega
  have AW := Lib.hid (awake_c w)
  by_cases hbig : 60 < n
  · have d1 : decide (60 < (n : Int)) = true := decide_eq_true (by omega)
    have d1' : decide (60 < n) = true := decide_eq_true hbig
    go_enter Try.func5, Try.ntmps5
    go_wp2_with fail
    refine AW.out.mono ?_
    rintro e w1 ⟨rfl, s1⟩
    have N1 := Lib.hid (bNew_o (c := c) s1 (by unfold newA; rw [if_neg (by omega)]))
    clear AW s1
    go_wp2_with fail
    refine N1.out.mono ?_
    rintro e w2 ⟨g, rfl, s2⟩
    have S3 := Lib.hid (show St w None w2 [BookR g (Bk.new c)] from s2)
    clear N1 s2
    go_wp2_with fail
    go_ret
    exact ⟨rfl, S3.out.below⟩
  have d1 : decide (60 < (n : Int)) = false := decide_eq_false (by omega)
  have d1' : decide (60 < n) = false := decide_eq_false hbig
  go_enter Try.func5, Try.ntmps5
  go_wp2_with fail
  refine AW.out.mono ?_
  rintro e w1 ⟨rfl, s1⟩
  have N1 := Lib.hid (bNew_o (c := c) s1 (by unfold newA; rw [if_neg (by omega)]))
  clear AW s1
  go_wp2_with fail
  refine N1.out.mono ?_
  rintro e w2 ⟨g, rfl, s2⟩
  have S3 := Lib.hid (show St w None w2 [BookR g (Bk.new c)] from s2)
  clear N1 s2
  go_wp2_with fail
  go_loopw [10, 11] (fun x y wr => ∃ (k : Nat) (s : Bk), k ≤ n ∧ y = .int .i64 (k : Int) ∧ x = .int .i64 (cntO s.op : Int) ∧ cntO s.op ≤ k ∧ s.un = [] ∧ s.now = 0 ∧ AllD s c ∧ St w None wr [BookR g s]) (fun _ i _ => n - (intOf i).toNat)
  case atStart => exact ⟨0, Bk.new c, by omega, rfl, by rw [show cntO (Bk.new c).op = 0 from cf_none 64]; rfl, by rw [show cntO (Bk.new c).op = 0 from cf_none 64]; omega, rfl, rfl, ⟨rfl, fun k x h => by cases (show (none : Option (Int × Int)) = some x from h)⟩, S3.out⟩
  case round =>
  clear S3
  obtain ⟨k, s, hk, rfl, rfl, hck, hun, hnow, hall, sr⟩ := hrel
  have HUN := Lib.hid hun
  have HNOW := Lib.hid hnow
  have HALL := Lib.hid hall
  by_cases hlt : k < n
  · obtain ⟨ib, off, rfl, hib, hrd⟩ := RD.out (by omega)
    have z1 : decide ((k : Int) < (n : Int)) = true := decide_eq_true (by omega)
    have z1' : decide (k < n) = true := decide_eq_true hlt
    have e0 : wr.cell? ⟨ib, off + k, none⟩ = some (.int .u16 (f k)) := (sr.below.cell (p := ⟨ib, off + k, none⟩) hib).trans (hrd k hlt)
    have hfk := HF.out k
    have K1 := Lib.hid (bOpen_o (id := f k) (dead := c + 10) sr 0 rfl (wf_small (by omega) (by omega)) (by omega) (by omega))
    have HA2 := Lib.hid (hall.opn (id := f k))
    have HC := Lib.hid (show opnA s (f k) (c + 10) = 0 → cntO (s.opn (f k) (c + 10)).op = cntO s.op + 1 ∧ (s.opn (f k) (c + 10)).un = s.un ∧ (s.opn (f k) (c + 10)).now = s.now from fun h => ⟨(cnt_opn h).1, (cnt_opn h).2.1, (cnt_opn h).2.2.1⟩)
    have HD := Lib.hid (show opnA s (f k) (c + 10) ≠ 0 → s.opn (f k) (c + 10) = s from opn_id)
    generalize opnA s (f k) (c + 10) = q at *
    obtain ⟨s', hs'⟩ : ∃ s', s.opn (f k) (c + 10) = s' := ⟨_, rfl⟩
    rw [hs'] at K1 HA2 HC HD
    clear hrd sr hun hnow hall hs'
    generalize hcn : cntO s.op = cn at *
    have HCN := Lib.hid hcn
    clear hcn
    go_wp2_with fail
    refine K1.out.mono ?_
    rintro e w4 ⟨rfl, s4⟩
    have S4 := Lib.hid s4
    clear s4 K1 e0
    by_cases hq : q = 0
    · obtain ⟨h1, h2, h3⟩ := HC.out hq
      have H1 := Lib.hid (And.intro h1 (And.intro h2 h3))
      subst hq
      clear h1 h2 h3
      go_wp2_with fail
      go_roundw
      case rel => exact ⟨k + 1, s', by omega, by go_num, by rw [H1.out.1]; go_num, by rw [H1.out.1]; omega, H1.out.2.1.trans HUN.out, H1.out.2.2.trans HNOW.out, HA2.out, S4.out⟩
      case measure => simp [intOf]; omega
    · have z2 : (q == 0) = false := by simpa using hq
      have HE := Lib.hid (HD.out hq)
      clear hq
      go_wp2_with fail
      go_roundw
      case rel => exact ⟨k + 1, s', by omega, by go_num, by rw [HE.out, HCN.out], by rw [HE.out, HCN.out]; omega, by rw [HE.out]; exact HUN.out, by rw [HE.out]; exact HNOW.out, HA2.out, S4.out⟩
      case measure => simp [intOf]; omega
  · obtain rfl : k = n := by omega
    have z1 : decide ((k : Int) < (k : Int)) = false := decide_eq_false (by omega)
    have z1' : decide (k < k) = false := decide_eq_false hlt
    obtain ⟨N0, hN0⟩ : ∃ N0, cntO s.op = N0 := ⟨_, rfl⟩
    have S5 := Lib.hid sr
    have HN0 := Lib.hid hN0
    rw [hN0] at hck ⊢
    clear sr hlt hun hnow hall hN0
    go_wp2_with fail
    go_loopw [12, 13] (fun x y wr => ∃ (j : Nat) (s : Bk), j ≤ k ∧ y = .int .i64 (j : Int) ∧ x = .int .i64 (s.un.length : Int) ∧ cntO s.op + s.un.length = N0 ∧ s.now = 0 ∧ AllD s c ∧ St w None wr [BookR g s]) (fun _ i _ => k - (intOf i).toNat)
    case atStart => exact ⟨0, s, by omega, rfl, by rw [HUN.out]; rfl, by rw [HUN.out, HN0.out]; rfl, HNOW.out, HALL.out, S5.out⟩
    case round =>
    clear S5 z1 z1' HUN HNOW HALL HN0
    obtain ⟨j, s, hj, rfl, rfl, hsum, hnow, hall, sr⟩ := hrel
    obtain ⟨Sx, ok, hxx⟩ := sr.get 0 rfl
    have HNOW := Lib.hid hnow
    have HALL := Lib.hid hall
    have HSUM := Lib.hid hsum
    clear hxx
    by_cases hlt : j < k
    · have z1 : decide ((j : Int) < (k : Int)) = true := decide_eq_true (by omega)
      have z1' : decide (j < k) = true := decide_eq_true hlt
      by_cases hm2 : (j : Int) % 2 = 0
      · have z2 : ((j : Int) % 2 == 0) = true := by simp [hm2]
        obtain ⟨ib, off, rfl, hib, hrd⟩ := RD.out (by omega)
        have e0 : wr.cell? ⟨ib, off + j, none⟩ = some (.int .u16 (f j)) := (sr.below.cell (p := ⟨ib, off + j, none⟩) hib).trans (hrd j hlt)
        have hfk := HF.out j
        have K1 := Lib.hid (bAnswer_o (id := f j) sr 0 rfl (wf_small (by omega) (by omega)) (by omega) 1 false)
        have FN := Lib.hid (ansF ok (f j) 1 false (by omega) (by omega))
        have HA2 := Lib.hid (hall.ans (id := f j) (st := 1) (bad := false))
        generalize ansA s (f j) 1 = q at *
        obtain ⟨s', hs'⟩ : ∃ s', s.ans (f j) 1 false = s' := ⟨_, rfl⟩
        rw [hs'] at K1 HA2 FN
        obtain ⟨u, hu⟩ : ∃ u, s.un.length = u := ⟨_, rfl⟩
        have HU := Lib.hid hu
        rw [hu] at hsum ⊢
        clear hrd sr hnow hall hs' hu ok
        go_wp2_with fail
        refine K1.out.mono ?_
        rintro e w4 ⟨rfl, s4⟩
        have S4 := Lib.hid s4
        clear s4 K1 e0
        by_cases hq : q = 0
        · have H1 := Lib.hid (FN.out.y hq)
          subst hq
          go_wp2_with fail
          go_roundw
          case rel => exact ⟨j + 1, s', by omega, by go_num, by rw [H1.out.2.2.1, HU.out]; go_num, H1.out.2.1.trans HSUM.out, H1.out.2.2.2.1.trans HNOW.out, HA2.out, S4.out⟩
          case measure => simp [intOf]; omega
        · have z3 : (q == 0) = false := by simpa using hq
          have HE := Lib.hid (FN.out.n hq).2.2
          clear hq
          go_wp2_with fail
          go_roundw
          case rel => exact ⟨j + 1, s', by omega, by go_num, by rw [HE.out, HU.out], by rw [HE.out]; exact HSUM.out, by rw [HE.out]; exact HNOW.out, HA2.out, S4.out⟩
          case measure => simp [intOf]; omega
      · have z2 : ((j : Int) % 2 == 0) = false := by simpa using hm2
        have SR := Lib.hid sr
        clear sr hnow hall ok hm2
        go_wp2_with fail
        go_roundw
        case rel => exact ⟨j + 1, s, by omega, by go_num, rfl, HSUM.out, HNOW.out, HALL.out, SR.out⟩
        case measure => simp [intOf]; omega
    · obtain rfl : j = k := by omega
      have z1 : decide ((j : Int) < (j : Int)) = false := decide_eq_false (by omega)
      have z1' : decide (j < j) = false := decide_eq_false hlt
      have t0 : 0 ≤ b % 20 := Int.emod_nonneg _ (by omega)
      have t1 : b % 20 < 20 := Int.emod_lt_of_pos _ (by omega)
      obtain ⟨t, ht⟩ : ∃ t, b % 20 = t := ⟨_, rfl⟩
      rw [ht] at t0 t1
      have hg := goA_le (a := s.now) (u := t) (by omega) (by omega)
      have GG := Lib.hid (bGo_o (u := t) sr 0 rfl (by omega) (by omega))
      rw [hg] at GG
      have ON := Lib.hid (fun o ho => out_n ok hall (u := t) (o := o) (by omega) (by omega) ho)
      have HGN := Lib.hid (gon_now hg)
      have HA3 := Lib.hid (hall.gon (u := t))
      have OK3 := Lib.hid (ok.gon (u := t) t0)
      obtain ⟨s3, hs3⟩ : ∃ s3, s.gon t = s3 := ⟨_, rfl⟩
      rw [hs3] at GG ON HGN HA3 OK3
      obtain ⟨an, han⟩ : ∃ an, s.un.length = an := ⟨_, rfl⟩
      rw [han] at ON hsum ⊢
      obtain ⟨cn, hcn⟩ : ∃ cn, cntO s.op = cn := ⟨_, rfl⟩
      rw [hcn] at ON hsum
      clear sr hnow hall ok hg hs3 HNOW HALL HSUM han hcn hlt
      go_wp2_with fail
      simp only [ht]
      refine GG.out.mono ?_
      rintro e w5 ⟨B, no, d, o, rfl, ho, hno, hno9, s5⟩
      have hon := ON.out o ho
      have S5 := Lib.hid s5
      clear GG ON ho s5
      by_cases h10 : 10 ≤ t
      · have z4 : decide (10 ≤ t) = true := decide_eq_true h10
        obtain ⟨h1, h2⟩ := hon.1 h10
        obtain ⟨R, hR⟩ : ∃ R, cntO s3.op = R := ⟨_, rfl⟩
        have hW : no = N0 ∧ R + N0 = N0 := by omega
        obtain ⟨rfl, hRW⟩ := hW
        have HR := Lib.hid hR
        clear h1 h2 hon hno hR
        have z5 : ((no : Int) != (no : Int)) = false := by simp
        have z5' : (no != no) = false := by simp
        go_wp2_with fail
        go_loopw [18] (fun x wr => ∃ (i : Nat) (s : Bk), i ≤ j ∧ x = .int .i64 (i : Int) ∧ cntO s.op + s.un.length = R ∧ s.now = t ∧ AllD s c ∧ St w None wr [BookR g s, LisR 50 3 (.slice B no d) no (fvs o)]) (fun i _ => j - (intOf i).toNat)
        case atStart => exact ⟨0, s3, by omega, rfl, by rw [HGN.out.2, HR.out]; rfl, HGN.out.1, HA3.out, S5.out⟩
        case round =>
        clear S5 z1 z1' HGN HA3 OK3 HR z5 z5' z4
        obtain ⟨i, s, hi, rfl, hsum2, hnow, hall, sr⟩ := hrel
        obtain ⟨Sx, ok, hxx⟩ := sr.get 0 rfl
        have HNOW := Lib.hid hnow
        have HALL := Lib.hid hall
        have HSUM := Lib.hid hsum2
        clear hxx
        by_cases hlt : i < j
        · have z1 : decide ((i : Int) < (j : Int)) = true := decide_eq_true (by omega)
          have z1' : decide (i < j) = true := decide_eq_true hlt
          obtain ⟨ib, off, rfl, hib, hrd⟩ := RD.out (by omega)
          have e0 : wr.cell? ⟨ib, off + i, none⟩ = some (.int .u16 (f i)) := (sr.below.cell (p := ⟨ib, off + i, none⟩) hib).trans (hrd i hlt)
          have CE := Lib.hid (fun (W : World) (K : Below w.heap.size w W) => (K.cell (p := ⟨ib, off + i, none⟩) hib).trans (hrd i hlt))
          have hfk := HF.out i
          have HH := Lib.hid (bHas_o (id := f i) sr 0 rfl (wf_small (by omega) (by omega)))
          have FN := Lib.hid (ansF ok (f i) 2 true (by omega) (by omega))
          have HA2 := Lib.hid (hall.ans (id := f i) (st := 2) (bad := true))
          have OK2 := Lib.hid (ok.ans (f i) 2 true)
          generalize deadO s.op (f i) = dd at *
          obtain ⟨ex, hex⟩ : ∃ ex, (slotO s.op (f i)).isSome = ex := ⟨_, rfl⟩
          have NS := Lib.hid (show (slotO s.op (f i)).isSome = false → (slotO s.op (f i)).isSome = false from id)
          have FX := Lib.hid hex
          rw [hex] at HH
          clear hex
          clear hrd sr hnow hall ok
          go_wp2_with fail
          refine HH.out.mono ?_
          rintro e w6 ⟨rfl, s6⟩
          have K1 := Lib.hid (bAnswer_o (id := f i) s6 0 rfl (wf_small (by omega) (by omega)) (by omega) 2 true)
          have e1 := CE.out _ s6.below
          obtain ⟨q, hq0⟩ : ∃ q, ansA s (f i) 2 = q := ⟨_, rfl⟩
          obtain ⟨s', hs'⟩ : ∃ s', s.ans (f i) 2 true = s' := ⟨_, rfl⟩
          rw [hq0, hs'] at K1 FN
          rw [hs'] at HA2 OK2
          clear s6 HH e0 hq0 hs'
          go_wp2_with fail
          refine K1.out.mono ?_
          rintro e w7 ⟨rfl, s7⟩
          have e2 := CE.out _ s7.below
          have hun7 : s'.un.length ≤ 100000 := by
            by_cases hq : q = 0
            · have := (FN.out.y hq).2.2.1; omega
            · rw [(FN.out.n hq).2.2]; omega
          have K2 := Lib.hid (bAnswer_o (id := f i) s7 0 rfl (wf_small (by omega) (by omega)) hun7 2 true)
          have F2 := ansF OK2.out (f i) 2 true (by omega) (by omega)
          have h6 : ansA s' (f i) 2 = 6 ∧ s'.ans (f i) 2 true = s' := by
            have hns : (slotO s'.op (f i)).isSome = false := by
              by_cases hq : q = 0
              · rw [(FN.out.y hq).2.2.2.2]; rfl
              · rw [(FN.out.n hq).2.2]; exact NS.out (FN.out.n hq).2.1
            have hne : ansA s' (f i) 2 ≠ 0 := fun h => by have := (F2.y h).1; rw [hns] at this; cases this
            exact ⟨(F2.n hne).1, (F2.n hne).2.2⟩
          rw [h6.1, h6.2] at K2
          have HE : s'.now = s.now ∧ cntO s'.op + s'.un.length = cntO s.op + s.un.length := by
            by_cases hq : q = 0
            · exact ⟨(FN.out.y hq).2.2.2.1, (FN.out.y hq).2.1⟩
            · rw [(FN.out.n hq).2.2]; exact ⟨rfl, rfl⟩
          have HE := Lib.hid HE
          have hqe : (q == 0) = ex := by
            rw [← FX.out]
            by_cases hq : q = 0
            · rw [(FN.out.y hq).1, hq]; rfl
            · rw [(FN.out.n hq).2.1]; simpa using hq
          have hqx : ((q == 0) != ex) = false := by rw [hqe]; simp
          clear s7 K1 e1 h6 F2 hun7 CE
          go_wp2_with fail
          refine K2.out.mono ?_
          rintro e w8 ⟨rfl, s8⟩
          have S8 := Lib.hid s8
          clear s8 K2 e2
          go_wp2_with fail
          go_roundw
          case rel => exact ⟨i + 1, s', by omega, by go_num, HE.out.2.trans HSUM.out, HE.out.1.trans HNOW.out, HA2.out, S8.out⟩
          case measure => simp [intOf]; omega
        · obtain rfl : i = j := by omega
          have z1 : decide ((i : Int) < (i : Int)) = false := decide_eq_false (by omega)
          have z1' : decide (i < i) = false := decide_eq_false hlt
          have hg := goA_le (a := s.now) (u := t + 1000) (by omega) (by omega)
          have GG := Lib.hid (bGo_o (u := t + 1000) sr 0 rfl (by omega) (by omega))
          rw [hg] at GG
          have ON := Lib.hid (fun o ho => (out_n ok hall (u := t + 1000) (o := o) (by omega) (by omega) ho).1 (by omega))
          rw [hsum2] at ON
          clear sr hnow hall ok hg
          go_wp2_with fail
          refine GG.out.mono ?_
          rintro e w9 ⟨B9, n9, d9, o9, rfl, ho9, hno9', hno99, s9⟩
          obtain ⟨h1, h2⟩ := ON.out o9 ho9
          have CN := Lib.hid (bCount_o s9 0 rfl)
          rw [h2] at CN
          have hnR : n9 = R := by omega
          have zz : ((n9 : Int) == ((R + no : Nat) : Int) - (no : Int)) = true := by simpa using (show (n9 : Int) = ((R + no : Nat) : Int) - (no : Int) by omega)
          clear GG ON ho9 s9 h1 h2 hno9'
          go_wp2_with (first
            | (go_at_call 21; refine CN.out.mono ?_; rintro e wz ⟨rfl, sz⟩; have SZ := Lib.hid sz; clear sz)
            | fail)
          go_ret
          exact ⟨rfl, SZ.out.below⟩
      · have z4 : decide (10 ≤ t) = false := decide_eq_false h10
        obtain ⟨h1, h2⟩ := hon.2 (by omega)
        obtain ⟨R, hR⟩ : ∃ R, cntO s3.op = R := ⟨_, rfl⟩
        have hW : no = an ∧ R + an = N0 := by omega
        obtain ⟨rfl, hRW⟩ := hW
        have HR := Lib.hid hR
        clear h1 h2 hon hno hR
        have z5 : ((no : Int) != (no : Int)) = false := by simp
        have z5' : (no != no) = false := by simp
        go_wp2_with fail
        go_loopw [18] (fun x wr => ∃ (i : Nat) (s : Bk), i ≤ j ∧ x = .int .i64 (i : Int) ∧ cntO s.op + s.un.length = R ∧ s.now = t ∧ AllD s c ∧ St w None wr [BookR g s, LisR 50 3 (.slice B no d) no (fvs o)]) (fun i _ => j - (intOf i).toNat)
        case atStart => exact ⟨0, s3, by omega, rfl, by rw [HGN.out.2, HR.out]; rfl, HGN.out.1, HA3.out, S5.out⟩
        case round =>
        clear S5 z1 z1' HGN HA3 OK3 HR z5 z5' z4
        obtain ⟨i, s, hi, rfl, hsum2, hnow, hall, sr⟩ := hrel
        obtain ⟨Sx, ok, hxx⟩ := sr.get 0 rfl
        have HNOW := Lib.hid hnow
        have HALL := Lib.hid hall
        have HSUM := Lib.hid hsum2
        clear hxx
        by_cases hlt : i < j
        · have z1 : decide ((i : Int) < (j : Int)) = true := decide_eq_true (by omega)
          have z1' : decide (i < j) = true := decide_eq_true hlt
          obtain ⟨ib, off, rfl, hib, hrd⟩ := RD.out (by omega)
          have e0 : wr.cell? ⟨ib, off + i, none⟩ = some (.int .u16 (f i)) := (sr.below.cell (p := ⟨ib, off + i, none⟩) hib).trans (hrd i hlt)
          have CE := Lib.hid (fun (W : World) (K : Below w.heap.size w W) => (K.cell (p := ⟨ib, off + i, none⟩) hib).trans (hrd i hlt))
          have hfk := HF.out i
          have HH := Lib.hid (bHas_o (id := f i) sr 0 rfl (wf_small (by omega) (by omega)))
          have FN := Lib.hid (ansF ok (f i) 2 true (by omega) (by omega))
          have HA2 := Lib.hid (hall.ans (id := f i) (st := 2) (bad := true))
          have OK2 := Lib.hid (ok.ans (f i) 2 true)
          generalize deadO s.op (f i) = dd at *
          obtain ⟨ex, hex⟩ : ∃ ex, (slotO s.op (f i)).isSome = ex := ⟨_, rfl⟩
          have NS := Lib.hid (show (slotO s.op (f i)).isSome = false → (slotO s.op (f i)).isSome = false from id)
          have FX := Lib.hid hex
          rw [hex] at HH
          clear hex
          clear hrd sr hnow hall ok
          go_wp2_with fail
          refine HH.out.mono ?_
          rintro e w6 ⟨rfl, s6⟩
          have K1 := Lib.hid (bAnswer_o (id := f i) s6 0 rfl (wf_small (by omega) (by omega)) (by omega) 2 true)
          have e1 := CE.out _ s6.below
          obtain ⟨q, hq0⟩ : ∃ q, ansA s (f i) 2 = q := ⟨_, rfl⟩
          obtain ⟨s', hs'⟩ : ∃ s', s.ans (f i) 2 true = s' := ⟨_, rfl⟩
          rw [hq0, hs'] at K1 FN
          rw [hs'] at HA2 OK2
          clear s6 HH e0 hq0 hs'
          go_wp2_with fail
          refine K1.out.mono ?_
          rintro e w7 ⟨rfl, s7⟩
          have e2 := CE.out _ s7.below
          have hun7 : s'.un.length ≤ 100000 := by
            by_cases hq : q = 0
            · have := (FN.out.y hq).2.2.1; omega
            · rw [(FN.out.n hq).2.2]; omega
          have K2 := Lib.hid (bAnswer_o (id := f i) s7 0 rfl (wf_small (by omega) (by omega)) hun7 2 true)
          have F2 := ansF OK2.out (f i) 2 true (by omega) (by omega)
          have h6 : ansA s' (f i) 2 = 6 ∧ s'.ans (f i) 2 true = s' := by
            have hns : (slotO s'.op (f i)).isSome = false := by
              by_cases hq : q = 0
              · rw [(FN.out.y hq).2.2.2.2]; rfl
              · rw [(FN.out.n hq).2.2]; exact NS.out (FN.out.n hq).2.1
            have hne : ansA s' (f i) 2 ≠ 0 := fun h => by have := (F2.y h).1; rw [hns] at this; cases this
            exact ⟨(F2.n hne).1, (F2.n hne).2.2⟩
          rw [h6.1, h6.2] at K2
          have HE : s'.now = s.now ∧ cntO s'.op + s'.un.length = cntO s.op + s.un.length := by
            by_cases hq : q = 0
            · exact ⟨(FN.out.y hq).2.2.2.1, (FN.out.y hq).2.1⟩
            · rw [(FN.out.n hq).2.2]; exact ⟨rfl, rfl⟩
          have HE := Lib.hid HE
          have hqe : (q == 0) = ex := by
            rw [← FX.out]
            by_cases hq : q = 0
            · rw [(FN.out.y hq).1, hq]; rfl
            · rw [(FN.out.n hq).2.1]; simpa using hq
          have hqx : ((q == 0) != ex) = false := by rw [hqe]; simp
          clear s7 K1 e1 h6 F2 hun7 CE
          go_wp2_with fail
          refine K2.out.mono ?_
          rintro e w8 ⟨rfl, s8⟩
          have S8 := Lib.hid s8
          clear s8 K2 e2
          go_wp2_with fail
          go_roundw
          case rel => exact ⟨i + 1, s', by omega, by go_num, HE.out.2.trans HSUM.out, HE.out.1.trans HNOW.out, HA2.out, S8.out⟩
          case measure => simp [intOf]; omega
        · obtain rfl : i = j := by omega
          have z1 : decide ((i : Int) < (i : Int)) = false := decide_eq_false (by omega)
          have z1' : decide (i < i) = false := decide_eq_false hlt
          have hg := goA_le (a := s.now) (u := t + 1000) (by omega) (by omega)
          have GG := Lib.hid (bGo_o (u := t + 1000) sr 0 rfl (by omega) (by omega))
          rw [hg] at GG
          have ON := Lib.hid (fun o ho => (out_n ok hall (u := t + 1000) (o := o) (by omega) (by omega) ho).1 (by omega))
          rw [hsum2] at ON
          clear sr hnow hall ok hg
          go_wp2_with fail
          refine GG.out.mono ?_
          rintro e w9 ⟨B9, n9, d9, o9, rfl, ho9, hno9', hno99, s9⟩
          obtain ⟨h1, h2⟩ := ON.out o9 ho9
          have CN := Lib.hid (bCount_o s9 0 rfl)
          rw [h2] at CN
          have hnR : n9 = R := by omega
          have zz : ((n9 : Int) == ((R + no : Nat) : Int) - (no : Int)) = true := by simpa using (show (n9 : Int) = ((R + no : Nat) : Int) - (no : Int) by omega)
          clear GG ON ho9 s9 h1 h2 hno9'
          go_wp2_with (first
            | (go_at_call 21; refine CN.out.mono ?_; rintro e wz ⟨rfl, sz⟩; have SZ := Lib.hid sz; clear sz)
            | fail)
          go_ret
          exact ⟨rfl, SZ.out.below⟩

set_option maxRecDepth 100000 in
theorem lifted (os : Os) (started : os.Started) (H : Type) (enc : TypeId × Value → H) :
    ReturnsInHanded {} Try.checked os 5 .any (Rows.lifeLateSpec.pre6 enc Try.prog Try.f5 Rows.lifeLateRow.domain false) (Rows.lifeLateSpec.post enc Try.prog Try.f5 false true false false) := by
  refine law_lifted (C := Try.checked) (tb := 4) own started (by kernel_rfl) Try.func5
    (ChangeSpec.witness6 (enc := enc) (C := Try.checked) false ⟨#[], #[.int .u8 0, .slice none 0 0, .int .u8 0], []⟩ 8 (by kernel_rfl) (by kernel_rfl) (by kernel_rfl) (by kernel_rfl)) laid (by kernel_rfl) (by kernel_rfl) Try.underlying4 rfl ?_
  intro W base args ds ps hval0 hA0 hlt
  have hval : ∀ (j : Nat) t v, Try.f5.params[j]? = some t → args[j]? = some v → Value.okWide Try.prog W .any base t v := hval0
  have hA : DataW.TrodAll enc Try.prog W 0 (fun _ => true) true Try.f5.params.toList args.toList ds ps := hA0
  clear hA0 hval0
  rw [Try.params5] at hA hval
  obtain ⟨v0, vs0, d0, ds0, p0, q0, hargs, rfl, rfl, h0, r0⟩ := trodAll_cons hA
  obtain ⟨v1, vs1, d1, ds1, p1, q1, rfl, rfl, rfl, h1, r1⟩ := trodAll_cons r0
  obtain ⟨v2, vs2, d2, ds2, p2, q2, rfl, rfl, rfl, h2, r2⟩ := trodAll_cons r1
  obtain ⟨rfl, rfl, rfl⟩ := trodAll_nil r2
  obtain rfl : args = #[v0, v1, v2] := by cases args; simp_all
  obtain ⟨a0, rfl, rfl, rfl, w0⟩ := open_int Try.underlying5 (hval 0 5 v0 rfl rfl) h0
  obtain ⟨A1, n1, cap1, f1, rfl, le1, mx1, wf1, rd1⟩ := open_slice_ints Try.underlying52 Try.underlying53 (by kernel_rfl) (hval 1 52 v1 rfl rfl) h1
  obtain ⟨a2, rfl, rfl, rfl, w2⟩ := open_int Try.underlying5 (hval 2 5 v2 rfl rfl) h2
  refine ⟨⟨rfl, rfl, rfl⟩, ?_⟩
  exact walk a0 A1 n1 cap1 f1 a2 W (bounds_u8 w0) (bounds_u8 w2) (by omega) rd1 (fun i => bounds_u16 (wf1 i))

theorem over : Rows.lifeLateRow.holds Try.pinned (OpenSpec.ofChange Rows.lifeLateSpec) :=
  OpenClaim.holds_of_wide 5 Try.f5 rfl rfl rfl rfl rfl rfl rfl ⟨rfl, rfl, rfl, rfl, rfl⟩ rfl rfl rfl rfl rfl (by kernel_rfl) Try.func5 (by kernel_rfl)
    (of_decide_eq_true (by kernel_rfl)) (by unfold Func.isWrapper; first | (rw [if_pos (by decide +kernel)]; kernel_rfl) | (rw [if_neg (by decide +kernel)]; exact ⟨rfl, rfl⟩))
    (fun os started H enc _ => lifted os started H enc)
theorem proved : Rows.LifeLateSaid := over
#print axioms proved
end Go.Proofs.Ythdhfjcgboglfaa.lifeLate
