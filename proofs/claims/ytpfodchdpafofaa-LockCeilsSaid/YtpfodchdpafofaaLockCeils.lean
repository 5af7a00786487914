/-
  For all locks, urgencies and scripts LockCeils answers true, and changes nothing: if only the most urgent member acts, nobody is ever refused because another one holds a lock; a member's urgency is never less than its own. No condition.
-/
import Derived.Test.YtpfodchdpafofaaRows
import Derived.Test.YtpfodchdpafofaaFr
import Derived.Test.YtpfodchdpafofaaLockL
import Derived.Test.YtpfodchdpafofaaFam
import Derived.Deep.DeepCutAuto
import Derived.Deep.CutBlock
import Derived.Deep.QuietTactic
namespace Go.Proofs.Ytpfodchdpafofaa.lockCeils
open Go.ChangeShapes Go.WideShapes Go.ChangeAt Go.RowKit
set_option linter.unusedVariables false
theorem own : ownKnob Try.prog.godebug = none := by kernel_rfl
theorem laid : laidOutB Try.prog = true := by kernel_rfl
set_option maxRecDepth 100000
set_option maxHeartbeats 8000000
theorem infoB : (Try.prog.info? 4).map (fun i => (i.zero, i.size, i.bytes)) = some (some (.bool false), 1, 1) := by kernel_rfl
structure Inv (s : KS) (l : List Int) (np : Nat) (P : Nat → Int) : Prop where
  ok : s.ok
  cl : s.ceils = l
  st : Stack s
  kn : ∀ i m, s.mem i = some m → i < np ∧ m.prio = P i
theorem inv_new {l : List Int} (h : (KS.new l).ok) (np : Nat) (P : Nat → Int) : Inv (KS.new l) l np P :=
  ⟨h, rfl, fun i j m m' _ h => (by cases h), fun i m h => (by cases h)⟩
theorem Inv.out {s : KS} {l : List Int} {np : Nat} {P : Nat → Int} (h : Inv s l np P) (i : Nat) (hi : np ≤ i) : s.mem i = none := by
  cases hm : s.mem i with
  | none => rfl
  | some m => have := (h.kn i m hm).1; omega
theorem inv_set {s : KS} {l : List Int} {np : Nat} {P : Nat → Int} (h : Inv s l np P) {i : Nat} {m : Mb} (hok : (s.set i (some m)).ok) (hst : Stack (s.set i (some m))) (hi : i < np) (hp : m.prio = P i) : Inv (s.set i (some m)) l np P := by
  refine ⟨hok, h.cl, hst, fun j m' hm => ?_⟩
  have hm : (if j = i then some m else s.mem j) = some m' := hm
  split at hm
  · rename_i e; injection hm with hm; subst hm; subst e; exact ⟨hi, hp⟩
  · exact h.kn j m' hm
theorem same_set {s : KS} {i : Nat} {m m' : Mb} (hm : s.mem i = some m) (j : Nat) : ((s.set i (some m')).mem j).isSome = (s.mem j).isSome := by
  show (if j = i then some m' else s.mem j).isSome = _
  by_cases e : j = i
  · subst e; rw [if_pos rfl, hm]; rfl
  · rw [if_neg e]
theorem inv_take {s s' : KS} {l : List Int} {np : Nat} {P : Nat → Int} (h : Inv s l np P) {b : Nat} {x f : Int} (hF : First s b) (hP : TakeP s b x f s') : Inv s' l np P ∧ f ≠ 10 ∧ ∀ j, (s'.mem j).isSome = (s.mem j).isSome := by
  refine ⟨?_, never_busy h.ok h.st hF hP, ?_⟩
  · have h1 := hP.ok h.ok
    have h2 := take_stack h.st hF hP
    rcases hP with ⟨_, _, rfl⟩ | ⟨y, _, hy, ⟨_, _, rfl⟩ | ⟨m, hm, ⟨_, _, rfl⟩ | ⟨_, _, _, rfl⟩ | ⟨_, _, _, _, rfl⟩ | ⟨_, _, _, _, rfl⟩⟩⟩
    · exact h
    · exact h
    · exact h
    · exact h
    · exact h
    · exact inv_set h h1 h2 (h.kn b m hm).1 (h.kn b m hm).2
  · rcases hP with ⟨_, _, rfl⟩ | ⟨y, _, hy, ⟨_, _, rfl⟩ | ⟨m, hm, ⟨_, _, rfl⟩ | ⟨_, _, _, rfl⟩ | ⟨_, _, _, _, rfl⟩ | ⟨_, _, _, _, rfl⟩⟩⟩
    · exact fun _ => rfl
    · exact fun _ => rfl
    · exact fun _ => rfl
    · exact fun _ => rfl
    · exact fun _ => rfl
    · exact same_set hm
theorem inv_back {s : KS} {l : List Int} {np : Nat} {P : Nat → Int} (h : Inv s l np P) {b y : Nat} {m : Mb} {pre : List Nat} (hF : First s b) (hm : s.mem b = some m) (hp : m.held = pre ++ [y]) : ∃ s', BackP s b y 0 s' ∧ Inv s' l np P ∧ ∀ j, (s'.mem j).isSome = (s.mem j).isSome := by
  have hB : BackP s b y 0 (s.set b (some ⟨m.prio, pre⟩)) := ⟨m, hm, by rw [hp]; simp, Or.inl ⟨pre, hp, rfl, rfl⟩⟩
  exact ⟨_, hB, inv_set h (hB.ok h.ok) (back_stack h.st hF hB) (h.kn b m hm).1 (h.kn b m hm).2, same_set hm⟩
theorem inv_know {s : KS} {l : List Int} {np : Nat} {P : Nat → Int} (h : Inv s l np P) {y : Nat} (hy : y < np) (hn : np ≤ 16) (hp : 0 ≤ P y ∧ P y ≤ 100) : Inv (s.set y (some ⟨P y, []⟩)) l np P :=
  inv_set h (know_ok h.ok (by omega) hp) (know_stack h.st y (P y)) hy rfl
theorem inv_gone {s : KS} {l : List Int} {np : Nat} {P : Nat → Int} (h : Inv s l np P) (b : Nat) : Inv (s.set b none) l np P := by
  refine ⟨h.ok.gone b, h.cl, gone_stack h.st b, fun j m hm => ?_⟩
  have hm : (if j = b then none else s.mem j) = some m := hm
  split at hm
  · cases hm
  · exact h.kn j m hm
theorem row_set (s : KS) (i : Nat) (o : Option Mb) (j : Nat) : Value.bool ((s.set i o).mem j).isSome = if j = i then .bool o.isSome else .bool (s.mem j).isSome := by
  show Value.bool (if j = i then o else s.mem j).isSome = _
  by_cases e : j = i
  · rw [if_pos e, if_pos e]
  · rw [if_neg e, if_neg e]
theorem walk (A : Option Addr) (n cap : Nat) (V : Nat → Nat → Value) (A1 : Option Addr) (np cap1 : Nat) (f : Nat → Int) (A2 : Option Addr) (n2 cap2 : Nat) (V2 : Nat → Nat → Value) (w : World) (hm : n ≤ maxLen) (hm1 : np ≤ maxLen) (hm2 : n2 ≤ maxLen) (rd : RdM w A n 1 V) (hV : ∀ j, j < n → ∃ z : Int, V j 0 = .int .i64 z) (hf : ∀ j, 0 ≤ f j ∧ f j ≤ 255) (rd1 : Rd w A1 np (fun i => .int .u8 (f i)))
    (rd2 : RdM w A2 n2 3 V2) (hV2 : ∀ j, j < n2 → ∃ z i x : Int, V2 j 0 = .int .i64 z ∧ V2 j 1 = .int .i64 i ∧ V2 j 2 = .int .i64 x) :
    Calls Try.prog 3 #[.slice A n cap, .slice A1 np cap1, .slice A2 n2 cap2] w fun r w' => r = .returned (.bool true) ∧ Below w.heap.size w w' := by
  unfold maxLen at hm hm1 hm2
  obtain ⟨l, hl, hr⟩ := list_of rd hV
  have AW := Lib.hid (awake_s (St.begin w))
  have HR := Lib.hid hr
  have HL := Lib.hid hl
  have HR1 := Lib.hid rd1
  have HF := Lib.hid hf
  have RD2 := Lib.hid rd2
  have HV2 := Lib.hid hV2
  clear rd hV hr hl rd1 hf rd2 hV2
  by_cases hmay : mayK l
  case neg =>
    have RM := Lib.hid (fun w1 (K : Below w.heap.size w w1) => rMay_c (d := cap) w1 (HR.out.stay K) HL.out (by omega) false (decide_eq_false hmay).symm)
    clear hmay
    go_enter Try.func3, Try.ntmps3
    go_wp2_with fail
    refine AW.out.mono ?_
    rintro r w1 ⟨rfl, s1⟩
    have R1 := Lib.hid (RM.out w1 s1.below)
    go_wp2_with fail
    refine R1.out.mono ?_
    rintro r w2 ⟨rfl, rfl⟩
    go_wp2_with fail
    go_ret
    exact ⟨rfl, s1.below⟩
  have RM := Lib.hid (fun w1 (K : Below w.heap.size w w1) => rMay_c (d := cap) w1 (HR.out.stay K) HL.out (by omega) true (decide_eq_true hmay).symm)
  have HM := Lib.hid hmay
  have hn1 : 1 ≤ n ∧ n ≤ 16 := by have := hmay.2; rw [HL.out] at this; exact this
  clear hmay
  by_cases h0 : np = 0
  · subst h0
    go_enter Try.func3, Try.ntmps3
    go_wp2_with fail
    refine AW.out.mono ?_
    rintro r w1 ⟨rfl, s1⟩
    have R1 := Lib.hid (RM.out w1 s1.below)
    go_wp2_with fail
    refine R1.out.mono ?_
    rintro r w2 ⟨rfl, rfl⟩
    go_wp2_with fail
    go_ret
    exact ⟨rfl, s1.below⟩
  have z0 : ((np : Int) == 0) = false := beq_eq_false_iff_ne.2 (by omega)
  have z0' : (np == 0) = false := beq_eq_false_iff_ne.2 h0
  by_cases h16 : 16 < np
  · have d1 : decide (16 < (np : Int)) = true := decide_eq_true (by omega)
    have d1' : decide (16 < np) = true := decide_eq_true h16
    clear h0
    go_enter Try.func3, Try.ntmps3
    go_wp2_with fail
    refine AW.out.mono ?_
    rintro r w1 ⟨rfl, s1⟩
    have R1 := Lib.hid (RM.out w1 s1.below)
    go_wp2_with fail
    refine R1.out.mono ?_
    rintro r w2 ⟨rfl, rfl⟩
    go_wp2_with fail
    go_ret
    exact ⟨rfl, s1.below⟩
  have d1 : decide (16 < (np : Int)) = false := decide_eq_false (by omega)
  have d1' : decide (16 < np) = false := decide_eq_false h16
  have hnp : 1 ≤ np ∧ np ≤ 16 := by omega
  clear h16 h0
  obtain ⟨P, hP⟩ : ∃ P : Nat → Int, ∀ i, P i = f i % 101 := ⟨fun i => f i % 101, fun _ => rfl⟩
  have HPP := Lib.hid hP
  clear hP
  obtain ⟨iB, hiB, hzB, hsB, hbB⟩ := info3k infoB
  have mk := fun W => run_make_rowN (P := Try.prog) 31 4 iB (.bool false) Try.underlying31 hiB hzB rfl hsB .i64 .i64 np (by rw [hbB]; omega) (by omega) W
  go_enter Try.func3, Try.ntmps3
  go_wp2_with fail
  refine AW.out.mono ?_
  rintro r w1 ⟨rfl, s1⟩
  have R1 := Lib.hid (RM.out w1 s1.below)
  have N1 := Lib.hid (New_o (d := cap) s1 (HR.out.stay s1.below) HL.out hn1.1 hn1.2 HM.out.1)
  clear s1 AW RM
  go_wp2_with fail
  refine R1.out.mono ?_
  rintro r w2 ⟨rfl, rfl⟩
  go_wp2_with fail
  refine N1.out.mono ?_
  rintro r w2 ⟨k, rfl, s2⟩
  have OK0 := Lib.hid (KS.new_ok (l := l) (by rw [HL.out]; omega) (by rw [HL.out]; omega) HM.out.1)
  have S3 := Lib.hid (show St w None (w2.alloc (.cells (madeCells #[.bool false] np) 4)) [KR k 0 (KS.new l), ArrR w2.heap.size 4 np (fun i => .bool ((KS.new l).mem i).isSome)] from s2.made_row 4 np (.bool false))
  obtain ⟨kb, hkb⟩ : ∃ kb, kb = w2.heap.size := ⟨_, rfl⟩
  clear s2 R1 N1
  go_wp2_with fail
  clear mk
  rw [← hkb] at S3 ⊢
  clear hkb
  go_loopw [10] (fun t wr => ∃ (i N : Nat) (s : KS), i ≤ n2 ∧ i ≤ 120 ∧ N ≤ i ∧ t = .int .i64 (i : Int) ∧ Inv s l np P ∧ St w None wr [KR k N s, ArrR kb 4 np (fun i => .bool (s.mem i).isSome)]) (fun t _ => n2 - (intOf t).toNat)
  case atStart => exact ⟨0, 0, _, by omega, by omega, by omega, rfl, inv_new OK0.out np P, S3.out⟩
  case round =>
  clear S3 OK0
  obtain ⟨i, N, s, hi, hi2, hN, rfl, hinv, sr⟩ := hrel
  have INV := Lib.hid hinv
  have SR := Lib.hid sr
  clear hinv sr
  by_cases hin : i < n2
  case neg =>
    have t1 : decide ((i : Int) < (n2 : Int)) = false := decide_eq_false (by omega)
    have t1' : decide (i < n2) = false := decide_eq_false hin
    go_wp2_with fail
    go_ret
    exact ⟨rfl, SR.out.below⟩
  have t1 : decide ((i : Int) < (n2 : Int)) = true := decide_eq_true (by omega)
  have t1' : decide (i < n2) = true := decide_eq_true hin
  by_cases hin2 : i < 120
  case neg =>
    have t2 : decide ((i : Int) < 120) = false := decide_eq_false (by omega)
    have t2' : decide (i < 120) = false := decide_eq_false hin2
    clear hin2 hi2
    go_wp2_with fail
    go_ret
    exact ⟨rfl, SR.out.below⟩
  have t2 : decide ((i : Int) < 120) = true := decide_eq_true (by omega)
  have t2' : decide (i < 120) = true := decide_eq_true hin2
  obtain ⟨ib, off, rfl, e0, e1, e2⟩ := RD2.out.at3 SR.out.below hin
  obtain ⟨z, id, x, v0, v1, v2⟩ := HV2.out i hin
  rw [v0] at e0
  rw [v1] at e1
  rw [v2] at e2
  obtain ⟨db, hdb⟩ : ∃ db, wr.heap.size = db := ⟨_, rfl⟩
  have sb : St w None (wr.alloc (.cells #[.int .i64 z, .int .i64 id, .int .i64 x] 33)) [KR k N s, ArrR kb 4 np (fun i => .bool (s.mem i).isSome), BlkR db 33 #[.int .i64 z, .int .i64 id, .int .i64 x]] := by rw [← hdb]; exact St.box (L := [_, _]) SR.out _ _
  have SB := Lib.hid sb
  obtain ⟨b0, b1, b2⟩ := (sb.blk 2 rfl).three
  clear sb v0 v1 v2
  obtain ⟨g1, o1, rfl, _, hc1⟩ := HR1.out (by omega)
  have PCA := Lib.hid (show ∀ (y : Nat), y < np → ∀ W, Below w.heap.size w W → W.cell? ⟨g1, o1 + y, none⟩ = some (.int .u8 (f y)) from fun y hy W K => by
    have h : w.cell? ⟨g1, o1 + y, none⟩ = some (.int .u8 (f y)) := hc1 y hy
    rw [K.cell (block_lt h)]; exact h)
  have PRA := Lib.hid (show ∀ y, Int.tmod (f y) 101 = P y ∧ 0 ≤ P y ∧ P y ≤ 100 from fun y => by
    have h := HF.out y
    rw [Int.tmod_eq_emod_of_nonneg h.1, ← HPP.out y]
    refine ⟨rfl, ?_⟩
    rw [HPP.out y]; omega)
  clear hc1
  by_cases h0 : z = 0
  · subst h0
    obtain ⟨y, hynp, hy⟩ : ∃ y : Nat, y < np ∧ (Int.tmod id (np : Int) = (y : Int) ∨ (Int.tmod id (np : Int) = -(y : Int) ∧ 0 < y)) := by
      have h1 : (Int.tmod id (np : Int)).natAbs = id.natAbs % np := by rw [Int.natAbs_tmod, Int.natAbs_natCast]
      have h2 := Nat.mod_lt id.natAbs (show 0 < np by omega)
      exact ⟨(Int.tmod id (np : Int)).natAbs, by omega, by omega⟩
    have PC := Lib.hid (PCA.out y hynp)
    obtain ⟨hpr, hpv⟩ := PRA.out y
    have INV' := Lib.hid (inv_know INV.out hynp hnp.2 hpv)
    obtain ⟨zf, hzf⟩ : ∃ zf, zf = f y := ⟨_, rfl⟩
    obtain ⟨pv, hpvv⟩ : ∃ pv, pv = P y := ⟨_, rfl⟩
    have hzb := HF.out y
    rw [← hzf] at PC hpr hzb
    rw [← hpvv] at hpr hpv INV'
    have HPV := Lib.hid hpv
    have y0 : (0 : Int) ≤ (y : Int) := by omega
    have y1 : (y : Int) < (np : Int) := by omega
    clear hzf hpvv hpv PCA PRA
    rcases hy with hrem | ⟨hrem, hy0⟩
    · have u0 : decide ((y : Int) < 0) = false := decide_eq_false (by omega)
      cases hmy : s.mem y with
      | none =>
        have HC := Lib.hid (HeldN_o SB.out 0 rfl (i := y) (by omega) hmy)
        have HNH := Lib.hid (show ∀ m, s.mem y = some m → m.held = [] from fun m h => by rw [hmy] at h; cases h)
        have S6 := SB
        clear hmy
        go_wp2_with fail
        refine HC.out.mono ?_
        rintro r w6 ⟨rfl, rfl⟩
        have p0 := PC.out _ S6.out.below
        clear HC
        go_wp2_with fail
        have KC := Lib.hid (show Calls Try.prog 11 #[.pointer (some ⟨k, 0, none⟩), .int .i64 (y : Int), .int .i64 pv] _ _ from Know_o S6.out 0 rfl INV.out.ok (i := y) (by omega) HNH.out HPV.out (by omega))
        clear p0
        refine KC.out.mono ?_
        rintro r w7 ⟨rfl, s7⟩
        have s7 : St w None w7 [KR k (N + 1) (s.set y (some ⟨pv, []⟩)), ArrR kb 4 np (fun i => .bool (s.mem i).isSome), BlkR db 33 #[.int .i64 0, .int .i64 id, .int .i64 x]] := s7
        have f7 := s7.arr_frozen 1 rfl y
        have c7 := s7.arr_cell 1 rfl hynp
        have s8 : St w None _ [KR k (N + 1) (s.set y (some ⟨pv, []⟩)), ArrR kb 4 np (fun j => if j = y then .bool true else .bool (s.mem j).isSome)] := (s7.arr_set 1 rfl hynp (.bool true)).take 2
        have s9 : St w None _ [KR k (N + 1) (s.set y (some ⟨pv, []⟩)), ArrR kb 4 np (fun j => .bool ((s.set y (some ⟨pv, []⟩)).mem j).isSome)] := s8.arr_like 1 rfl (fun j hj => row_set s y _ j)
        have S9 := Lib.hid s9
        clear s7 s8 s9 KC
        go_wp2_with fail
        go_roundw
        case rel => exact ⟨i + 1, N + 1, _, by omega, by omega, by omega, by go_num, INV'.out, S9.out⟩
        case measure => simp [intOf]; omega
      | some m =>
        have HC := Lib.hid (Held_o SB.out 0 rfl INV.out.ok hmy)
        by_cases hmh : m.held = []
        · have HNH := Lib.hid (show ∀ m, s.mem y = some m → m.held = [] from fun m' h => by rw [hmy] at h; injection h with h; subst h; exact hmh)
          have HZ := Lib.hid (show m.held.length = 0 by rw [hmh]; rfl)
          rw [HZ.out] at HC
          clear hmy hmh
          go_wp2_with fail
          refine HC.out.mono ?_
          rintro r w6 ⟨C, d, rfl, s6⟩
          have S6 := Lib.hid (SB.out.stay s6.below)
          have p0 := PC.out _ S6.out.below
          clear s6 HC
          go_wp2_with fail
          have KC := Lib.hid (show Calls Try.prog 11 #[.pointer (some ⟨k, 0, none⟩), .int .i64 (y : Int), .int .i64 pv] _ _ from Know_o S6.out 0 rfl INV.out.ok (i := y) (by omega) HNH.out HPV.out (by omega))
          clear p0
          refine KC.out.mono ?_
          rintro r w7 ⟨rfl, s7⟩
          have s7 : St w None w7 [KR k (N + 1) (s.set y (some ⟨pv, []⟩)), ArrR kb 4 np (fun i => .bool (s.mem i).isSome), BlkR db 33 #[.int .i64 0, .int .i64 id, .int .i64 x]] := s7
          have f7 := s7.arr_frozen 1 rfl y
          have c7 := s7.arr_cell 1 rfl hynp
          have s8 : St w None _ [KR k (N + 1) (s.set y (some ⟨pv, []⟩)), ArrR kb 4 np (fun j => if j = y then .bool true else .bool (s.mem j).isSome)] := (s7.arr_set 1 rfl hynp (.bool true)).take 2
          have s9 : St w None _ [KR k (N + 1) (s.set y (some ⟨pv, []⟩)), ArrR kb 4 np (fun j => .bool ((s.set y (some ⟨pv, []⟩)).mem j).isSome)] := s8.arr_like 1 rfl (fun j hj => row_set s y _ j)
          have S9 := Lib.hid s9
          clear s7 s8 s9 KC
          go_wp2_with fail
          go_roundw
          case rel => exact ⟨i + 1, N + 1, _, by omega, by omega, by omega, by go_num, INV'.out, S9.out⟩
          case measure => simp [intOf]; omega
        · obtain ⟨n3, hn3⟩ : ∃ n3, m.held.length = n3 := ⟨_, rfl⟩
          rw [hn3] at HC
          have hn30 : n3 ≠ 0 := fun e => hmh (List.eq_nil_of_length_eq_zero (by rw [hn3, e]))
          have u1 : ((n3 : Int) == 0) = false := beq_eq_false_iff_ne.2 (by omega)
          have u1' : (n3 == 0) = false := beq_eq_false_iff_ne.2 hn30
          clear hmy hmh hn3 hn30
          go_wp2_with fail
          refine HC.out.mono ?_
          rintro r w6 ⟨C, d, rfl, s6⟩
          have S6 := Lib.hid ((SB.out.stay s6.below).take 2)
          clear s6 HC
          go_wp2_with fail
          go_roundw
          case rel => exact ⟨i + 1, N, s, by omega, by omega, by omega, by go_num, INV.out, S6.out⟩
          case measure => simp [intOf]; omega
    · have u0 : decide (-(y : Int) < 0) = true := decide_eq_true (by omega)
      have u0' : - -(y : Int) = (y : Int) := by omega
      have u0'' : decide (0 < y) = true := decide_eq_true hy0
      cases hmy : s.mem y with
      | none =>
        have HC := Lib.hid (HeldN_o SB.out 0 rfl (i := y) (by omega) hmy)
        have HNH := Lib.hid (show ∀ m, s.mem y = some m → m.held = [] from fun m h => by rw [hmy] at h; cases h)
        have S6 := SB
        clear hmy
        go_wp2_with fail
        refine HC.out.mono ?_
        rintro r w6 ⟨rfl, rfl⟩
        have p0 := PC.out _ S6.out.below
        clear HC
        go_wp2_with fail
        have KC := Lib.hid (show Calls Try.prog 11 #[.pointer (some ⟨k, 0, none⟩), .int .i64 (y : Int), .int .i64 pv] _ _ from Know_o S6.out 0 rfl INV.out.ok (i := y) (by omega) HNH.out HPV.out (by omega))
        clear p0
        refine KC.out.mono ?_
        rintro r w7 ⟨rfl, s7⟩
        have s7 : St w None w7 [KR k (N + 1) (s.set y (some ⟨pv, []⟩)), ArrR kb 4 np (fun i => .bool (s.mem i).isSome), BlkR db 33 #[.int .i64 0, .int .i64 id, .int .i64 x]] := s7
        have f7 := s7.arr_frozen 1 rfl y
        have c7 := s7.arr_cell 1 rfl hynp
        have s8 : St w None _ [KR k (N + 1) (s.set y (some ⟨pv, []⟩)), ArrR kb 4 np (fun j => if j = y then .bool true else .bool (s.mem j).isSome)] := (s7.arr_set 1 rfl hynp (.bool true)).take 2
        have s9 : St w None _ [KR k (N + 1) (s.set y (some ⟨pv, []⟩)), ArrR kb 4 np (fun j => .bool ((s.set y (some ⟨pv, []⟩)).mem j).isSome)] := s8.arr_like 1 rfl (fun j hj => row_set s y _ j)
        have S9 := Lib.hid s9
        clear s7 s8 s9 KC
        go_wp2_with fail
        go_roundw
        case rel => exact ⟨i + 1, N + 1, _, by omega, by omega, by omega, by go_num, INV'.out, S9.out⟩
        case measure => simp [intOf]; omega
      | some m =>
        have HC := Lib.hid (Held_o SB.out 0 rfl INV.out.ok hmy)
        by_cases hmh : m.held = []
        · have HNH := Lib.hid (show ∀ m, s.mem y = some m → m.held = [] from fun m' h => by rw [hmy] at h; injection h with h; subst h; exact hmh)
          have HZ := Lib.hid (show m.held.length = 0 by rw [hmh]; rfl)
          rw [HZ.out] at HC
          clear hmy hmh
          go_wp2_with fail
          refine HC.out.mono ?_
          rintro r w6 ⟨C, d, rfl, s6⟩
          have S6 := Lib.hid (SB.out.stay s6.below)
          have p0 := PC.out _ S6.out.below
          clear s6 HC
          go_wp2_with fail
          have KC := Lib.hid (show Calls Try.prog 11 #[.pointer (some ⟨k, 0, none⟩), .int .i64 (y : Int), .int .i64 pv] _ _ from Know_o S6.out 0 rfl INV.out.ok (i := y) (by omega) HNH.out HPV.out (by omega))
          clear p0
          refine KC.out.mono ?_
          rintro r w7 ⟨rfl, s7⟩
          have s7 : St w None w7 [KR k (N + 1) (s.set y (some ⟨pv, []⟩)), ArrR kb 4 np (fun i => .bool (s.mem i).isSome), BlkR db 33 #[.int .i64 0, .int .i64 id, .int .i64 x]] := s7
          have f7 := s7.arr_frozen 1 rfl y
          have c7 := s7.arr_cell 1 rfl hynp
          have s8 : St w None _ [KR k (N + 1) (s.set y (some ⟨pv, []⟩)), ArrR kb 4 np (fun j => if j = y then .bool true else .bool (s.mem j).isSome)] := (s7.arr_set 1 rfl hynp (.bool true)).take 2
          have s9 : St w None _ [KR k (N + 1) (s.set y (some ⟨pv, []⟩)), ArrR kb 4 np (fun j => .bool ((s.set y (some ⟨pv, []⟩)).mem j).isSome)] := s8.arr_like 1 rfl (fun j hj => row_set s y _ j)
          have S9 := Lib.hid s9
          clear s7 s8 s9 KC
          go_wp2_with fail
          go_roundw
          case rel => exact ⟨i + 1, N + 1, _, by omega, by omega, by omega, by go_num, INV'.out, S9.out⟩
          case measure => simp [intOf]; omega
        · obtain ⟨n3, hn3⟩ : ∃ n3, m.held.length = n3 := ⟨_, rfl⟩
          rw [hn3] at HC
          have hn30 : n3 ≠ 0 := fun e => hmh (List.eq_nil_of_length_eq_zero (by rw [hn3, e]))
          have u1 : ((n3 : Int) == 0) = false := beq_eq_false_iff_ne.2 (by omega)
          have u1' : (n3 == 0) = false := beq_eq_false_iff_ne.2 hn30
          clear hmy hmh hn3 hn30
          go_wp2_with fail
          refine HC.out.mono ?_
          rintro r w6 ⟨C, d, rfl, s6⟩
          have S6 := Lib.hid ((SB.out.stay s6.below).take 2)
          clear s6 HC
          go_wp2_with fail
          go_roundw
          case rel => exact ⟨i + 1, N, s, by omega, by omega, by omega, by go_num, INV.out, S6.out⟩
          case measure => simp [intOf]; omega
  have w0 : (z == 0) = false := beq_eq_false_iff_ne.2 h0
  have FC := Lib.hid (first_c SB.out 0 rfl INV.out.ok hnp.2 1 rfl INV.out.out)
  go_wp2_with fail
  refine FC.out.mono ?_
  rintro r w6 ⟨zb, rfl, hF, hb⟩
  have S6 := Lib.hid (SB.out.stay hb)
  have HFF := Lib.hid hF
  clear hF hb FC b0 b1 b2 e0 e1 e2
  rcases HFF.out with ⟨rfl, -⟩ | ⟨b, rfl, hF⟩
  · have S7 := Lib.hid (S6.out.take 2)
    go_wp2_with fail
    go_roundw
    case rel => exact ⟨i + 1, N, s, by omega, by omega, by omega, by go_num, INV.out, S7.out⟩
    case measure => simp [intOf]; omega
  have HFB := Lib.hid hF
  obtain ⟨m, hmb, -⟩ := hF
  have HMB := Lib.hid hmb
  obtain ⟨hbnp, hmp⟩ := INV.out.kn b m hmb
  have hcu := cur_le s m
  rw [hmp] at hcu
  obtain ⟨hpr, hpv⟩ := PRA.out b
  have p0 := PCA.out b hbnp _ S6.out.below
  obtain ⟨cu, hcuv⟩ : ∃ cu, s.cur m = cu := ⟨_, rfl⟩
  have PP := Lib.hid (show Calls Try.prog 13 #[.pointer (some ⟨k, 0, none⟩), .int .i64 (b : Int)] w6 (fun e w' => e = .returned (.tuple #[.int .i64 cu, .int .i64 0]) ∧ w6 = w') from (by rw [← hcuv]; exact Prio_o S6.out 0 rfl INV.out.ok hmb))
  obtain ⟨zf, hzf⟩ : ∃ zf, zf = f b := ⟨_, rfl⟩
  obtain ⟨pv, hpvv⟩ : ∃ pv, pv = P b := ⟨_, rfl⟩
  have hzb := HF.out b
  rw [← hzf] at p0 hpr hzb
  rw [← hpvv] at hpr hcu
  rw [hcuv] at hcu
  have q0 : decide ((b : Int) < 0) = false := decide_eq_false (by omega)
  have q1 : decide (pv < cu) = false := decide_eq_false (by omega)
  have q2 : (0 : Int) ≤ (b : Int) := by omega
  have q3 : (b : Int) < (np : Int) := by omega
  obtain ⟨b0, b1, b2⟩ := (S6.out.blk 2 rfl).three
  clear hmb hzf hpvv hcuv hcu hmp hpv PCA PRA HFF
  by_cases h1 : z = 1
  · subst h1
    obtain ⟨ft, s', hT⟩ := takeP_ex s INV.out.ok b x
    obtain ⟨hi', hf10, hsame⟩ := inv_take INV.out HFB.out hT
    have TC := Lib.hid (Take_o S6.out 0 rfl INV.out.ok (i := b) (by omega) hT)
    have INV' := Lib.hid hi'
    have HSM := Lib.hid hsame
    have w1 : (ft == 10) = false := beq_eq_false_iff_ne.2 hf10
    clear hT hi' hsame hf10
    go_wp2_with fail
    refine PP.out.mono ?_
    rintro r w7 ⟨rfl, rfl⟩
    go_wp2_with fail
    refine TC.out.mono ?_
    rintro r w7 ⟨rfl, s7⟩
    have s8 : St w None w7 [KR k N s', ArrR kb 4 np (fun i => .bool (s.mem i).isSome)] := s7.take 2
    have S8 := Lib.hid (show St w None w7 [KR k N s', ArrR kb 4 np (fun j => .bool (s'.mem j).isSome)] from s8.arr_like 1 rfl (fun j hj => by rw [HSM.out j]))
    clear s7 s8 TC PP p0 b0 b1 b2
    go_wp2_with fail
    go_roundw
    case rel => exact ⟨i + 1, N, s', by omega, by omega, by omega, by go_num, INV'.out, S8.out⟩
    case measure => simp [intOf]; omega
  have w1 : (z == 1) = false := beq_eq_false_iff_ne.2 h1
  have HC := Lib.hid (Held_o S6.out 0 rfl INV.out.ok HMB.out)
  by_cases hmh : m.held = []
  · have HZ := Lib.hid (show m.held.length = 0 by rw [hmh]; rfl)
    rw [HZ.out] at HC
    have GC := Lib.hid (fun (W : World) (K : St w None W [KR k N s, ArrR kb 4 np (fun i => .bool (s.mem i).isSome), BlkR db 33 #[.int .i64 z, .int .i64 id, .int .i64 x]]) => Gone_o K 0 rfl INV.out.ok HMB.out)
    have INV' := Lib.hid (inv_gone INV.out b)
    clear hmh
    have w2 : (z == 2) = true ∨ (z == 2) = false := by cases h : z == 2 <;> simp
    rcases w2 with w2 | w2
    all_goals
      go_wp2_with fail
      refine PP.out.mono ?_
      rintro r w7 ⟨rfl, rfl⟩
      go_wp2_with fail
      refine HC.out.mono ?_
      rintro r w7 ⟨C, d, rfl, s7'⟩
      have s7 := S6.out.stay s7'.below
      obtain ⟨c0, c1, c2⟩ := (s7.blk 2 rfl).three
      have G7 := Lib.hid (GC.out _ s7)
      clear s7 s7' HC GC p0 b0 b1 b2
      go_wp2_with fail
      refine G7.out.mono ?_
      rintro r w8 ⟨C2, d2, rfl, s8⟩
      have s8 : St w None w8 [KR k N (s.set b none), ArrR kb 4 np (fun i => .bool (s.mem i).isSome), BlkR db 33 #[.int .i64 z, .int .i64 id, .int .i64 x], LisR 3 1 (.slice C2 m.held.length d2) m.held.length (ivs m.held.reverse)] := s8
      have f8 := s8.arr_frozen 1 rfl b
      have c8 := s8.arr_cell 1 rfl hbnp
      have s9 : St w None _ [KR k N (s.set b none), ArrR kb 4 np (fun j => if j = b then .bool false else .bool (s.mem j).isSome)] := (s8.arr_set 1 rfl hbnp (.bool false)).take 2
      have S10 := Lib.hid (show St w None _ [KR k N (s.set b none), ArrR kb 4 np (fun j => .bool ((s.set b none).mem j).isSome)] from s9.arr_like 1 rfl (fun j hj => row_set s b _ j))
      clear s8 s9 G7 c0 c1 c2
      go_wp2_with fail
      go_roundw
      case rel => exact ⟨i + 1, N, _, by omega, by omega, by omega, by go_num, INV'.out, S10.out⟩
      case measure => simp [intOf]; omega
  obtain ⟨pre, y, hpre⟩ : ∃ pre y, m.held = pre ++ [y] := ⟨_, _, (List.dropLast_concat_getLast hmh).symm⟩
  obtain ⟨p, hp⟩ : ∃ p, p = pre.length := ⟨_, rfl⟩
  have hln : m.held.length = p + 1 := by rw [hpre, hp]; simp
  have HPR := Lib.hid hpre
  have hlen := INV.out.ok.len HMB.out
  rw [hln] at HC hlen
  have HGE := Lib.hid (show m.held[p]? = some y by rw [hpre, hp]; simp)
  have u1 : decide (0 < ((p + 1 : Nat) : Int)) = true := decide_eq_true (by omega)
  have u1' : decide (0 < p + 1) = true := decide_eq_true (by omega)
  have u1'' : decide (0 < (p : Int) + 1) = true := decide_eq_true (by omega)
  have u3 : (((p + 1 : Nat) : Int) == 0) = false := beq_eq_false_iff_ne.2 (by omega)
  have u3' : ((p : Int) + 1 == 0) = false := beq_eq_false_iff_ne.2 (by omega)
  have i0 : (0 : Int) ≤ (p : Int) := by omega
  have i1 : (p : Int) < ((p + 1 : Nat) : Int) := by omega
  have i2 : (p : Int) < (p : Int) + 1 := by omega
  have hm1 : ((p + 1 : Nat) : Int) - 1 = (p : Int) := by omega
  clear hpre hp hmh hln
  by_cases h2 : z = 2
  · subst h2
    obtain ⟨s', hB, hi', hsame⟩ := inv_back INV.out HFB.out HMB.out HPR.out
    have BC := Lib.hid (fun (W : World) (K : St w None W [KR k N s, ArrR kb 4 np (fun i => .bool (s.mem i).isSome), BlkR db 33 #[.int .i64 2, .int .i64 id, .int .i64 x]]) => Back_o K 0 rfl INV.out.ok hB)
    have INV' := Lib.hid hi'
    have HSM := Lib.hid hsame
    clear hB hi' hsame
    go_wp2_with fail
    refine PP.out.mono ?_
    rintro r w7 ⟨rfl, rfl⟩
    go_wp2_with fail
    refine HC.out.mono ?_
    rintro r w7 ⟨C, d, rfl, s7'⟩
    have s7 := S6.out.stay s7'.below
    obtain ⟨c0, c1, c2⟩ := (s7.blk 2 rfl).three
    obtain ⟨gh, oh, rfl, hch⟩ := (s7'.lis 0 rfl).at_ (by omega)
    have a0 := hch p _ (ivs_get HGE.out)
    have B7 := Lib.hid (BC.out _ s7)
    clear s7 s7' HC BC hch p0 b0 b1 b2
    go_wp2_with fail
    refine B7.out.mono ?_
    rintro r w8 ⟨rfl, s8⟩
    have s9 : St w None w8 [KR k N s', ArrR kb 4 np (fun i => .bool (s.mem i).isSome)] := s8.take 2
    have S10 := Lib.hid (show St w None w8 [KR k N s', ArrR kb 4 np (fun j => .bool (s'.mem j).isSome)] from s9.arr_like 1 rfl (fun j hj => by rw [HSM.out j]))
    clear s8 s9 B7 c0 c1 c2 a0
    go_wp2_with fail
    go_roundw
    case rel => exact ⟨i + 1, N, s', by omega, by omega, by omega, by go_num, INV'.out, S10.out⟩
    case measure => simp [intOf]; omega
  have w2 : (z == 2) = false := beq_eq_false_iff_ne.2 h2
  go_wp2_with fail
  refine PP.out.mono ?_
  rintro r w7 ⟨rfl, rfl⟩
  go_wp2_with fail
  refine HC.out.mono ?_
  rintro r w7 ⟨C, d, rfl, s7'⟩
  have s7 := S6.out.stay s7'.below
  obtain ⟨c0, c1, c2⟩ := (s7.blk 2 rfl).three
  have S7 := Lib.hid (s7.take 2)
  clear s7 s7' HC p0 b0 b1 b2
  go_wp2_with fail
  go_roundw
  case rel => exact ⟨i + 1, N, s, by omega, by omega, by omega, by go_num, INV.out, S7.out⟩
  case measure => simp [intOf]; omega

set_option maxRecDepth 100000 in
theorem lifted (os : Os) (started : os.Started) (H : Type) (enc : TypeId × Value → H) :
    ReturnsInHanded {} Try.checked os 3 .any (Rows.lockCeilsSpec.pre6 enc Try.prog Try.f3 Rows.lockCeilsRow.domain false) (Rows.lockCeilsSpec.post enc Try.prog Try.f3 false true false false) := by
  refine law_lifted (C := Try.checked) (tb := 4) own started (by kernel_rfl) Try.func3
    (ChangeSpec.witness6 (enc := enc) (C := Try.checked) false ⟨#[], #[.slice none 0 0, .slice none 0 0, .slice none 0 0], []⟩ 8 (by kernel_rfl) (by kernel_rfl) (by kernel_rfl) (by kernel_rfl)) laid (by kernel_rfl) (by kernel_rfl) Try.underlying4 rfl ?_
  intro W base args ds ps hval0 hA0 hlt
  have hval : ∀ (j : Nat) t v, Try.f3.params[j]? = some t → args[j]? = some v → Value.okWide Try.prog W .any base t v := hval0
  have hA : DataW.TrodAll enc Try.prog W 0 (fun _ => true) true Try.f3.params.toList args.toList ds ps := hA0
  clear hA0 hval0
  rw [Try.params3] at hA hval
  obtain ⟨v0, vs0, d0, ds0, p0, q0, hargs, rfl, rfl, h0, r0⟩ := trodAll_cons hA
  obtain ⟨v1, vs1, d1, ds1, p1, q1, rfl, rfl, rfl, h1, r1⟩ := trodAll_cons r0
  obtain ⟨v2, vs2, d2, ds2, p2, q2, rfl, rfl, rfl, h2, r2⟩ := trodAll_cons r1
  obtain ⟨rfl, rfl, rfl⟩ := trodAll_nil r2
  obtain rfl : args = #[v0, v1, v2] := by cases args; simp_all
  obtain ⟨A0, n0, cap0, V0, rfl, le0, mx0, rd0, fl0⟩ := open_slice_flat (m := 1) Try.underlying22 Try.underlying42 (by kernel_rfl) rfl (by decide) (fun i f h => by match i, h with | 0, h => cases h; exact ⟨rfl, by kernel_rfl⟩ | n + 1, h => simp at h) (hval 0 22 v0 rfl rfl) h0
  have f0_0 := (fl0 0 _ rfl).1 _ Try.underlying3
  obtain ⟨A1, n1, cap1, f1, rfl, le1, mx1, wf1, rd1⟩ := open_slice_ints Try.underlying23 Try.underlying5 (by kernel_rfl) (hval 1 23 v1 rfl rfl) h1
  obtain ⟨A2, n2, cap2, V2, rfl, le2, mx2, rd2, fl2⟩ := open_slice_flat (m := 3) Try.underlying24 Try.underlying33 (by kernel_rfl) rfl (by decide) (fun i f h => by match i, h with | 0, h => cases h; exact ⟨rfl, by kernel_rfl⟩ | 1, h => cases h; exact ⟨rfl, by kernel_rfl⟩ | 2, h => cases h; exact ⟨rfl, by kernel_rfl⟩ | n + 3, h => simp at h) (hval 2 24 v2 rfl rfl) h2
  have f2_0 := (fl2 0 _ rfl).1 _ Try.underlying3
  have f2_1 := (fl2 1 _ rfl).1 _ Try.underlying3
  have f2_2 := (fl2 2 _ rfl).1 _ Try.underlying3
  refine ⟨⟨rfl, rfl, rfl⟩, ?_⟩
  exact walk A0 n0 cap0 V0 A1 n1 cap1 f1 A2 n2 cap2 V2 W (by omega) (by omega) (by omega) rd0 (fun j hj => by
    obtain ⟨z, h0, -⟩ := f0_0 j hj
    exact ⟨z, h0⟩) (fun j => bounds_u8 (wf1 j)) rd1 rd2 (fun j hj => by
    obtain ⟨z, h0, -⟩ := f2_0 j hj
    obtain ⟨i, h1, -⟩ := f2_1 j hj
    obtain ⟨x, h2, -⟩ := f2_2 j hj
    exact ⟨z, i, x, h0, h1, h2⟩)

theorem over : Rows.lockCeilsRow.holds Try.pinned (OpenSpec.ofChange Rows.lockCeilsSpec) :=
  OpenClaim.holds_of_wide 3 Try.f3 rfl rfl rfl rfl rfl rfl rfl ⟨rfl, rfl, rfl, rfl, rfl⟩ rfl rfl rfl rfl rfl (by kernel_rfl) Try.func3 (by kernel_rfl)
    (of_decide_eq_true (by kernel_rfl)) (by unfold Func.isWrapper; first | (rw [if_pos (by decide +kernel)]; kernel_rfl) | (rw [if_neg (by decide +kernel)]; exact ⟨rfl, rfl⟩))
    (fun os started H enc _ => lifted os started H enc)
theorem proved : Rows.LockCeilsSaid := over
#print axioms proved
end Go.Proofs.Ytpfodchdpafofaa.lockCeils
