/-
  For every script ReadyRight answers true, and changes nothing: as many members are there as came and didn't go, each once. No condition.
-/
import Derived.Test.YtebcdpgalbibkaaRows
import Derived.Test.YtebcdpgalbibkaaFr
import Derived.Test.YtebcdpgalbibkaaReadyB
import Derived.Deep.DeepCutAuto
import Derived.Deep.CutBlock
import Derived.Test.YtebcdpgalbibkaaOpen
import Derived.Test.YtebcdpgalbibkaaRd
namespace Go.Proofs.Ytebcdpgalbibkaa.readyRight
open Go.ChangeShapes Go.WideShapes Go.ChangeAt Go.RowKit
set_option linter.unusedVariables false
theorem own : ownKnob Try.prog.godebug = none := by kernel_rfl
theorem laid : laidOutB Try.prog = true := by kernel_rfl
set_option maxRecDepth 100000
set_option maxHeartbeats 4000000
theorem Try.infoBo : (Try.prog.info? 4).map (fun i => (i.zero, i.size, i.bytes)) = some (some (.bool false), 1, 1) := by kernel_rfl
theorem seen_no {l : List Nat} {t x : Nat} (hn : l.Nodup) (h : l[t]? = some x) : x ∉ l.take t := by
  intro hc
  obtain ⟨i, hi, e⟩ := List.mem_iff_getElem.1 hc
  have hi2 : i < t := by have := hi; rw [List.length_take] at this; omega
  have h2 : l[i]? = some x := by
    rw [← e, List.getElem_take]; exact List.getElem?_eq_getElem _
  obtain ⟨h3, e3⟩ := List.getElem?_eq_some_iff.1 h
  obtain ⟨h4, e4⟩ := List.getElem?_eq_some_iff.1 h2
  exact List.pairwise_iff_getElem.1 hn i t h4 h3 hi2 (e4.trans e3.symm)
theorem seen_snoc {l : List Nat} {t x : Nat} (h : l[t]? = some x) (j : Nat) : decide (j ∈ l.take (t + 1)) = if j = x then true else decide (j ∈ l.take t) := by
  rw [List.take_add_one, h]
  by_cases e : j = x
  · subst e; simp
  · rw [if_neg e]; simp [e]
theorem walk (A : Option Addr) (n cap : Nat) (V : Nat → Nat → Value) (w : World) (hm : n ≤ maxLen) (rd : RdM w A n 3 V) (hV : ∀ j, j < n → ∃ z i p : Int, V j 0 = .int .i64 z ∧ V j 1 = .int .i64 i ∧ V j 2 = .int .i64 p) :
    Calls Try.prog 7 #[.slice A n cap] w fun r w' => r = .returned (.bool true) ∧ Below w.heap.size w w' := by
  unfold maxLen at hm
  have RD := Lib.hid rd
  have HV := Lib.hid hV
  obtain ⟨iB, hiB, hzB, hsB, hbB⟩ := info3 Try.infoBo
  have mk : ∀ W : World, (Instr.makeSlice 45 (.int .i64 64) (.int .i64 64)).run Try.prog W = .ok (.slice (some ⟨W.heap.size, 0, none⟩) 64 64) (W.alloc (.cells (madeCells #[.bool false] 64) 4)) := fun W => run_make_rowN (P := Try.prog) 45 4 iB (.bool false) Try.underlying45 hiB hzB rfl hsB .i64 .i64 64 (by rw [hbB]; omega) (by omega) W
  clear rd hV
  go_enter Try.func7, Try.ntmps7
  go_wp2_with fail
  refine (awake_o (St.begin w)).mono ?_
  rintro r w1 ⟨rfl, s1⟩
  go_wp2_with fail
  refine (New_o s1).mono ?_
  rintro r w2 ⟨q, rfl, s2'⟩
  have s2 : St w None w2 [QueR q QS.new] := s2'
  have s3 : St w None (w2.alloc (.cells (madeCells #[.bool false] 64) 4)) [QueR q QS.new, ArrR w2.heap.size 4 64 (fun j => .bool (QS.new.pr j).isSome)] := by
    have h : St w None _ [_, _] := s2.made_row 4 64 (.bool false)
    exact h.arr_like 1 rfl (V' := fun j => .bool (QS.new.pr j).isSome) fun j hj => rfl
  obtain ⟨g, hg⟩ : ∃ g, w2.heap.size = g := ⟨_, rfl⟩
  rw [hg] at s3
  have S3 := Lib.hid s3
  clear s1 s2 s2' s3
  go_wp2_with fail
  go_loopw [5, 6] (fun x5 i wr => ∃ (k N : Nat) (s : QS), k ≤ n ∧ k ≤ 120 ∧ i = .int .i64 k ∧ x5 = .int .i64 (N : Int) ∧ s.all.length = N ∧ s.ok k ∧ St w None wr [QueR q s, ArrR g 4 64 (fun j => .bool (s.pr j).isSome)]) (fun _ i _ => n - (intOf i).toNat)
  case atStart => exact ⟨0, 0, QS.new, by omega, by omega, rfl, rfl, (by have := QS.new_ok.len; omega), QS.new_ok, S3.out⟩
  case round =>
    clear S3 hg
    obtain ⟨k, N, s, hk, hk2, rfl, rfl, hN, hok, sr⟩ := hrel
    have HN := Lib.hid hN
    have hN1 : N ≤ k := by have := hok.len; omega
    have OK := Lib.hid hok
    have SR := Lib.hid sr
    clear hN hok
    by_cases hlt : k < n
    case neg =>
      clear sr mk
      go_wp2_with fail
      go_ret
      exact ⟨rfl, SR.out.below⟩
    have t0 : decide ((k : Int) < (n : Int)) = true := decide_eq_true (by omega)
    have t0' : decide (k < n) = true := decide_eq_true hlt
    by_cases hlt2 : k < 120
    case neg =>
      have t1 : decide ((k : Int) < 120) = false := decide_eq_false (by omega)
      have t1' : decide (k < 120) = false := decide_eq_false hlt2
      clear sr mk hlt2 hlt hk2 hk
      go_wp2_with fail
      go_ret
      exact ⟨rfl, SR.out.below⟩
    have t1 : decide ((k : Int) < 120) = true := decide_eq_true (by omega)
    have t1' : decide (k < 120) = true := decide_eq_true hlt2
    obtain ⟨ib, off, rfl, e0, e1, e2⟩ := RD.out.at3 sr.below hlt
    obtain ⟨z, id, p, v0, v1, v2⟩ := HV.out k hlt
    rw [v0] at e0
    rw [v1] at e1
    rw [v2] at e2
    have sb : St w None (wr.alloc (.cells #[.int .i64 z, .int .i64 id, .int .i64 p] 31)) [QueR q s, ArrR g 4 64 (fun j => .bool (s.pr j).isSome), BlkR wr.heap.size 31 #[.int .i64 z, .int .i64 id, .int .i64 p]] := St.box (L := [_, _]) sr _ _
    obtain ⟨db, hdb⟩ : ∃ db, wr.heap.size = db := ⟨_, rfl⟩
    rw [hdb] at sb
    have SB := Lib.hid sb
    obtain ⟨b0, b1, b2⟩ := (sb.blk 2 rfl).three
    clear sr sb v0 v1 v2
    obtain ⟨rb, hrb⟩ : ∃ rb, decide (mayQ id p) = rb := ⟨_, rfl⟩
    go_upto_region 10 with (fail)
    generalize wr.alloc (.cells #[.int .i64 z, .int .i64 id, .int .i64 p] 31) = wB at *
    clear e0 e1 e2
    go_cut [8] (fun c wx => c = .bool rb ∧ wx = wB)
    case first =>
      by_cases h1 : 0 ≤ id
      case neg =>
        have q1 : decide (0 ≤ id) = false := decide_eq_false h1
        have hq : decide (mayQ id p) = false := decide_eq_false (by unfold mayQ; omega)
        obtain rfl := hq.symm.trans hrb
        clear hq hrb
        go_wp2_with fail
        go_meet
        exact ⟨rfl, rfl⟩
      have q1 : decide (0 ≤ id) = true := decide_eq_true h1
      by_cases h2 : id < 64
      case neg =>
        have q2 : decide (id < 64) = false := decide_eq_false h2
        have hq : decide (mayQ id p) = false := decide_eq_false (by unfold mayQ; omega)
        obtain rfl := hq.symm.trans hrb
        clear hq hrb
        go_wp2_with fail
        go_meet
        exact ⟨rfl, rfl⟩
      have q2 : decide (id < 64) = true := decide_eq_true h2
      by_cases h3 : 0 ≤ p
      case neg =>
        have q3 : decide (0 ≤ p) = false := decide_eq_false h3
        have hq : decide (mayQ id p) = false := decide_eq_false (by unfold mayQ; omega)
        obtain rfl := hq.symm.trans hrb
        clear hq hrb
        go_wp2_with fail
        go_meet
        exact ⟨rfl, rfl⟩
      have q3 : decide (0 ≤ p) = true := decide_eq_true h3
      by_cases h4 : p ≤ 100
      case neg =>
        have q4 : decide (p ≤ 100) = false := decide_eq_false h4
        have hq : decide (mayQ id p) = false := decide_eq_false (by unfold mayQ; omega)
        obtain rfl := hq.symm.trans hrb
        clear hq hrb
        go_wp2_with fail
        go_meet
        exact ⟨rfl, rfl⟩
      have q4 : decide (p ≤ 100) = true := decide_eq_true h4
      have hq : decide (mayQ id p) = true := decide_eq_true (by unfold mayQ; omega)
      obtain rfl := hq.symm.trans hrb
      clear hq hrb
      go_wp2_with fail
      go_meet
      exact ⟨rfl, rfl⟩
    case rest =>
      obtain ⟨rfl, rfl⟩ := hcut
      go_upto_block 2 with (fail)
      go_cut [5] (fun x5 wx => ∃ (s' : QS) (N' : Nat), x5 = .int .i64 (N' : Int) ∧ s'.all.length = N' ∧ s'.ok (k + 1) ∧ St w None wx [QueR q s', ArrR g 4 64 (fun j => .bool (s'.pr j).isSome)])
      case first =>
        by_cases h0 : z = 0
        · subst h0
          by_cases hq : mayQ id p
          · obtain rfl : rb = true := by rw [← hrb]; exact decide_eq_true hq
            have hq2 := hq
            obtain ⟨⟨i0, i1⟩, p0, p1⟩ := hq
            obtain ⟨j, rfl⟩ : ∃ j : Nat, (j : Int) = id := ⟨id.toNat, by omega⟩
            obtain ⟨r, rfl⟩ : ∃ r : Nat, (r : Int) = p := ⟨p.toNat, by omega⟩
            cases hp : s.pr j with
            | some u =>
              have CO := Lib.hid (Come_o (i := 0) SB.out rfl OK.out j r 7 (Or.inr (Or.inl ⟨hq2, ⟨hq2.1, by rw [Int.toNat_natCast, hp]; rfl⟩, rfl, rfl⟩)))
              have HP := Lib.hid hp
              clear hp hq2 hrb
              go_wp2_with fail
              refine CO.out.mono ?_
              rintro r' w6 ⟨rfl, s6⟩
              clear b0 b1 b2
              obtain ⟨b0, b1, b2⟩ := (s6.blk 2 rfl).three
              have a1 := s6.arr_cell 1 rfl (k := j) (by omega)
              rw [HP.out] at a1
              have a2 : w6.cell? ⟨g, j, none⟩ = some (.bool true) := a1
              have S6 := Lib.hid (show St w None w6 [QueR q s, ArrR g 4 64 (fun j => .bool (s.pr j).isSome)] from s6.take 2)
              clear s6 a1 CO SB
              go_wp2_with fail
              go_meet
              exact ⟨s, N, rfl, HN.out, OK.out.more (by omega) (by omega), S6.out⟩
            | none =>
              have CO := Lib.hid (Come_o (i := 0) SB.out rfl OK.out j r 0 (Or.inr (Or.inr ⟨hq2, by rw [Int.toNat_natCast]; exact hp, rfl, rfl⟩)))
              have OK' := Lib.hid (OK.out.come (id := j) (p := r) (by omega) (by omega) hp (by omega))
              have HL := Lib.hid (show (s.come j r).all.length = N + 1 by rw [come_len s (by omega), HN.out])
              have HP := Lib.hid hp
              clear hp hq2 hrb
              go_wp2_with fail
              refine CO.out.mono ?_
              rintro r' w6 ⟨rfl, s6'⟩
              rw [Int.toNat_natCast, Int.toNat_natCast] at s6'
              have s6 : St w None w6 [QueR q (s.come j r), ArrR g 4 64 (fun j => .bool (s.pr j).isSome), BlkR db 31 #[.int .i64 0, .int .i64 j, .int .i64 r]] := s6'
              clear b0 b1 b2
              obtain ⟨b0, b1, b2⟩ := (s6.blk 2 rfl).three
              have a1 := s6.arr_cell 1 rfl (k := j) (by omega)
              have a3 := s6.arr_frozen 1 rfl j
              rw [HP.out] at a1
              have a2 : w6.cell? ⟨g, j, none⟩ = some (.bool false) := a1
              have s7 : St w None (w6.setCell ⟨g, j, none⟩ (.bool true)) [QueR q (s.come j r), ArrR g 4 64 (fun i => .bool ((s.come j r).pr i).isSome)] := ((s6.arr_set 1 rfl (k := j) (by omega) (.bool true)).arr_like 1 rfl (V' := fun i => .bool ((s.come j r).pr i).isSome) fun i hi => by
                show Value.bool (if i = j then some r else s.pr i).isSome = if i = j then Value.bool true else Value.bool (s.pr i).isSome
                split <;> rfl).take 2
              have S7 := Lib.hid s7
              clear s6 s6' a1 CO SB s7
              go_wp2_with fail
              go_meet
              exact ⟨s.come j r, N + 1, by go_num, HL.out, OK'.out, S7.out⟩
          · obtain rfl : rb = false := by rw [← hrb]; exact decide_eq_false hq
            have CO := Lib.hid (Come_o (i := 0) SB.out rfl OK.out id p 1 (Or.inl ⟨hq, rfl, rfl⟩))
            clear hq hrb
            go_wp2_with fail
            refine CO.out.mono ?_
            rintro r' w6 ⟨rfl, s6⟩
            clear b0 b1 b2
            obtain ⟨b0, b1, b2⟩ := (s6.blk 2 rfl).three
            have S6 := Lib.hid (show St w None w6 [QueR q s, ArrR g 4 64 (fun j => .bool (s.pr j).isSome)] from s6.take 2)
            clear s6 CO SB
            go_wp2_with fail
            go_meet
            exact ⟨s, N, rfl, HN.out, OK.out.more (by omega) (by omega), S6.out⟩
        have z0 : (z == 0) = false := beq_eq_false_iff_ne.2 h0
        clear h0 hrb
        by_cases h1 : z = 1
        · subst h1
          by_cases hq : hasQ s id
          · have GO := Lib.hid (Go_o (i := 0) SB.out rfl OK.out id 0 (Or.inr ⟨hq, rfl, rfl⟩))
            obtain ⟨⟨i0, i1⟩, hp⟩ := hq
            obtain ⟨j, rfl⟩ : ∃ j : Nat, (j : Int) = id := ⟨id.toNat, by omega⟩
            rw [Int.toNat_natCast] at hp
            have q1 : decide ((0 : Int) ≤ (j : Int)) = true := decide_eq_true i0
            have q2 : decide ((j : Int) < 64) = true := decide_eq_true i1
            have q2' : decide (j < 64) = true := decide_eq_true (by omega)
            have a1 := SB.out.arr_cell 1 rfl (k := j) (by omega)
            rw [hp] at a1
            have hgl := go_len OK.out hp
            obtain ⟨N', rfl⟩ : ∃ N', N = N' + 1 := ⟨N - 1, by have := HN.out; omega⟩
            have HL := Lib.hid (show (s.go j).all.length = N' by have := HN.out; omega)
            have hwn : IntKind.i64.wrap (((N' + 1 : Nat) : Int) - 1) = (N' : Int) := by rw [IntWalk.i64_in _ ⟨by omega, by omega⟩]; omega
            have hwn2 : wrap64 (((N' + 1 : Nat) : Int) - 1) = (N' : Int) := by rw [IntWalk.wrap64_in _ ⟨by omega, by omega⟩]; omega
            obtain ⟨NN, hNN⟩ : ∃ NN : Int, ((N' + 1 : Nat) : Int) = NN := ⟨_, rfl⟩
            rw [hNN] at hwn hwn2 ⊢
            clear hp hgl hNN
            go_wp2_with fail
            refine GO.out.mono ?_
            rintro r' w6 ⟨rfl, s6'⟩
            rw [Int.toNat_natCast] at s6'
            have s6 : St w None w6 [QueR q (s.go j), ArrR g 4 64 (fun j => .bool (s.pr j).isSome), BlkR db 31 #[.int .i64 1, .int .i64 j, .int .i64 p]] := s6'
            clear b0 b1 b2 a1
            obtain ⟨b0, b1, b2⟩ := (s6.blk 2 rfl).three
            have a3 := s6.arr_frozen 1 rfl j
            have s7 : St w None (w6.setCell ⟨g, j, none⟩ (.bool false)) [QueR q (s.go j), ArrR g 4 64 (fun i => .bool ((s.go j).pr i).isSome)] := ((s6.arr_set 1 rfl (k := j) (by omega) (.bool false)).arr_like 1 rfl (V' := fun i => .bool ((s.go j).pr i).isSome) fun i hi => by
              show Value.bool (if i = j then none else s.pr i).isSome = if i = j then Value.bool false else Value.bool (s.pr i).isSome
              split <;> rfl).take 2
            have a4 := s6.arr_cell 1 rfl (k := j) (by omega)
            have S7 := Lib.hid s7
            clear s6 s6' GO SB s7
            go_wp2_with fail
            go_meet
            exact ⟨s.go j, N', rfl, HL.out, (OK.out.go j).more (by omega) (by omega), S7.out⟩
          · have GO := Lib.hid (Go_o (i := 0) SB.out rfl OK.out id 6 (Or.inl ⟨hq, rfl, rfl⟩))
            by_cases i0 : 0 ≤ id
            case neg =>
              have q1 : decide (0 ≤ id) = false := decide_eq_false i0
              clear hq
              go_wp2_with fail
              refine GO.out.mono ?_
              rintro r' w6 ⟨rfl, s6⟩
              clear b0 b1 b2
              obtain ⟨b0, b1, b2⟩ := (s6.blk 2 rfl).three
              have S6 := Lib.hid (show St w None w6 [QueR q s, ArrR g 4 64 (fun j => .bool (s.pr j).isSome)] from s6.take 2)
              clear s6 GO SB
              go_wp2_with fail
              go_meet
              exact ⟨s, N, rfl, HN.out, OK.out.more (by omega) (by omega), S6.out⟩
            have q1 : decide (0 ≤ id) = true := decide_eq_true i0
            by_cases i1 : id < 64
            case neg =>
              have q2 : decide (id < 64) = false := decide_eq_false i1
              clear hq
              go_wp2_with fail
              refine GO.out.mono ?_
              rintro r' w6 ⟨rfl, s6⟩
              clear b0 b1 b2
              obtain ⟨b0, b1, b2⟩ := (s6.blk 2 rfl).three
              have S6 := Lib.hid (show St w None w6 [QueR q s, ArrR g 4 64 (fun j => .bool (s.pr j).isSome)] from s6.take 2)
              clear s6 GO SB
              go_wp2_with fail
              go_meet
              exact ⟨s, N, rfl, HN.out, OK.out.more (by omega) (by omega), S6.out⟩
            have q2 : decide (id < 64) = true := decide_eq_true i1
            obtain ⟨j, rfl⟩ : ∃ j : Nat, (j : Int) = id := ⟨id.toNat, by omega⟩
            have hp : (s.pr j).isSome = false := by
              cases h : (s.pr j).isSome with
              | false => rfl
              | true => exact absurd ⟨⟨i0, i1⟩, by rw [Int.toNat_natCast]; exact h⟩ hq
            have a1 := SB.out.arr_cell 1 rfl (k := j) (by omega)
            rw [hp] at a1
            have q2' : decide (j < 64) = true := decide_eq_true (by omega)
            clear hq hp
            go_wp2_with fail
            refine GO.out.mono ?_
            rintro r' w6 ⟨rfl, s6⟩
            clear b0 b1 b2
            obtain ⟨b0, b1, b2⟩ := (s6.blk 2 rfl).three
            have S6 := Lib.hid (show St w None w6 [QueR q s, ArrR g 4 64 (fun j => .bool (s.pr j).isSome)] from s6.take 2)
            clear s6 GO SB
            go_wp2_with fail
            go_meet
            exact ⟨s, N, rfl, HN.out, OK.out.more (by omega) (by omega), S6.out⟩
        have z1 : (z == 1) = false := beq_eq_false_iff_ne.2 h1
        have S6 := Lib.hid (show St w None _ [QueR q s, ArrR g 4 64 (fun j => .bool (s.pr j).isSome)] from SB.out.take 2)
        clear h1
        go_wp2_with fail
        go_meet
        exact ⟨s, N, rfl, HN.out, OK.out.more (by omega) (by omega), S6.out⟩
      case rest =>
        clear b0 b1 b2 HN OK SB hrb
        obtain ⟨s', N', rfl, hN', ok', s8⟩ := hcut
        have S8 := Lib.hid s8
        have OK' := Lib.hid ok'
        have HN' := Lib.hid hN'
        have hN1' : N' ≤ k + 1 := by have := ok'.len; omega
        clear s8 ok' hN' hN1 t0 t0' t1 t1'
        go_wp2_with fail
        refine (All_o (i := 0) S8.out rfl OK'.out).mono ?_
        rintro r' w9 ⟨B, c, rfl, s9'⟩
        rw [HN'.out] at s9' ⊢
        have hnd := OK'.out.ids_nd
        have hmem : ∀ j, j ∈ s'.ids → j < 64 ∧ (s'.pr j).isSome = true := fun j hj => ⟨OK'.out.ids_lt hj, OK'.out.mem_ids.1 hj⟩
        have hll := (ids_len s').trans HN'.out
        have s9 : St w None w9 [QueR q s', ArrR g 4 64 (fun j => .bool (s'.pr j).isSome), LisR 3 1 (.slice B N' c) N' (ivs s'.ids)] := s9'
        have s10 : St w None (w9.alloc (.cells (madeCells #[.bool false] 64) 4)) [QueR q s', ArrR g 4 64 (fun j => .bool (s'.pr j).isSome), LisR 3 1 (.slice B N' c) N' (ivs s'.ids), ArrR w9.heap.size 4 64 (fun j => .bool (decide (j ∈ s'.ids.take 0)))] := by
          have h : St w None _ [_, _, _, _] := s9.made_row 4 64 (.bool false)
          exact h.arr_like 3 rfl (V' := fun j => .bool (decide (j ∈ s'.ids.take 0))) fun j hj => by simp
        obtain ⟨g2, hg2⟩ : ∃ g2, w9.heap.size = g2 := ⟨_, rfl⟩
        rw [hg2] at s10
        generalize s'.ids = l at *
        have ND := Lib.hid hnd
        have MEM := Lib.hid hmem
        have HLL := Lib.hid hll
        have S10 := Lib.hid s10
        clear s9 s9' s10 S8 hnd hmem hll
        go_wp2_with fail
        go_loopw [13] (fun i wr => ∃ t : Nat, t ≤ N' ∧ i = .int .i64 t ∧ St w None wr [QueR q s', ArrR g 4 64 (fun j => .bool (s'.pr j).isSome), LisR 3 1 (.slice B N' c) N' (ivs l), ArrR g2 4 64 (fun j => .bool (decide (j ∈ l.take t)))]) (fun i _ => N' - (intOf i).toNat)
        case atStart => exact ⟨0, by omega, rfl, S10.out⟩
        case round =>
          clear S10 hg2 mk
          obtain ⟨t, ht, rfl, sl⟩ := hrel
          have SL := Lib.hid sl
          by_cases htl : t < N'
          · obtain ⟨x, hx⟩ : ∃ x, l[t]? = some x := ⟨l[t]'(by have := HLL.out; omega), List.getElem?_eq_getElem _⟩
            obtain ⟨gb, go, rfl, hc⟩ := (sl.lis 2 rfl).reads.2.resolve_left (by omega)
            have c1' := hc t _ (ivs_get hx)
            obtain ⟨x64, hin⟩ := MEM.out x (List.mem_of_getElem? hx)
            have a1 := sl.arr_cell 1 rfl (k := x) x64
            rw [hin] at a1
            have a2 := sl.arr_cell 3 rfl (k := x) x64
            rw [decide_eq_false (seen_no ND.out hx)] at a2
            have a3 := sl.arr_frozen 3 rfl x
            have s11 := (sl.arr_set 3 rfl (k := x) x64 (.bool true)).arr_like 3 rfl (V' := fun j => .bool (decide (j ∈ l.take (t + 1)))) fun j hj => by
              show Value.bool (decide (j ∈ l.take (t + 1))) = if j = x then Value.bool true else Value.bool (decide (j ∈ l.take t))
              rw [seen_snoc hx]; split <;> rfl
            have S11 := Lib.hid s11
            have y1 : decide ((x : Int) < 0) = false := decide_eq_false (by omega)
            have y2 : decide ((63 : Int) < (x : Int)) = false := decide_eq_false (by omega)
            have y2' : decide (63 < x) = false := decide_eq_false (by omega)
            have x64' : (x : Int) < 64 := by omega
            clear sl s11 hx hin hc
            go_wp2_with fail
            go_roundw
            case rel => exact ⟨t + 1, by omega, by go_num, S11.out⟩
            case measure => simp [intOf]; omega
          · obtain rfl : t = N' := by omega
            have S11 := Lib.hid (show St w None _ [QueR q s', ArrR g 4 64 (fun j => .bool (s'.pr j).isSome)] from sl.take 2)
            clear sl SL
            go_wp2_with fail
            go_roundw
            case rel => exact ⟨k + 1, t, s', by omega, by omega, by go_num, rfl, HN'.out, OK'.out, S11.out⟩
            case measure => simp [intOf]; omega

set_option maxRecDepth 100000 in
theorem lifted (os : Os) (started : os.Started) (H : Type) (enc : TypeId × Value → H) :
    ReturnsInHanded {} Try.checked os 7 .any (Rows.readyRightSpec.pre6 enc Try.prog Try.f7 Rows.readyRightRow.domain false) (Rows.readyRightSpec.post enc Try.prog Try.f7 false true false false) := by
  refine law_lifted (C := Try.checked) (tb := 4) own started (by kernel_rfl) Try.func7
    (ChangeSpec.witness6 (enc := enc) (C := Try.checked) false ⟨#[], #[.slice none 0 0], []⟩ 8 (by kernel_rfl) (by kernel_rfl) (by kernel_rfl) (by kernel_rfl)) laid (by kernel_rfl) (by kernel_rfl) Try.underlying4 rfl ?_
  intro W base args ds ps hval0 hA0 hlt
  have hval : ∀ (j : Nat) t v, Try.f7.params[j]? = some t → args[j]? = some v → Value.okWide Try.prog W .any base t v := hval0
  have hA : DataW.TrodAll enc Try.prog W 0 (fun _ => true) true Try.f7.params.toList args.toList ds ps := hA0
  clear hA0 hval0
  rw [Try.params7] at hA hval
  obtain ⟨v0, vs0, d0, ds0, p0, q0, hargs, rfl, rfl, h0, r0⟩ := trodAll_cons hA
  obtain ⟨rfl, rfl, rfl⟩ := trodAll_nil r0
  obtain rfl : args = #[v0] := by cases args; simp_all
  obtain ⟨A0, n0, cap0, V0, rfl, le0, mx0, rd0, lf0⟩ := open_slice_spots (m := 3) (d := 20) (l := [(0, 3), (1, 3), (2, 3)]) Try.underlying22 (by kernel_rfl) (by decide) (by kernel_rfl) (hval 0 22 v0 rfl rfl) h0
  have f0_0 := fun j hj => leaf_int Try.underlying3 (lf0 0 3 (by simp) j hj)
  have f0_1 := fun j hj => leaf_int Try.underlying3 (lf0 1 3 (by simp) j hj)
  have f0_2 := fun j hj => leaf_int Try.underlying3 (lf0 2 3 (by simp) j hj)
  refine ⟨⟨rfl, rfl, rfl⟩, ?_⟩
  exact walk A0 n0 cap0 V0 W (by omega) rd0 (fun j hj => by
    obtain ⟨x0, h0, -⟩ := f0_0 j hj
    obtain ⟨x1, h1, -⟩ := f0_1 j hj
    obtain ⟨x2, h2, -⟩ := f0_2 j hj
    exact ⟨x0, x1, x2, h0, h1, h2⟩)

theorem over : Rows.readyRightRow.holds Try.pinned (OpenSpec.ofChange Rows.readyRightSpec) :=
  OpenClaim.holds_of_wide 7 Try.f7 rfl rfl rfl rfl rfl rfl rfl ⟨rfl, rfl, rfl, rfl, rfl⟩ rfl rfl rfl rfl rfl (by kernel_rfl) Try.func7 (by kernel_rfl)
    (of_decide_eq_true (by kernel_rfl)) (by unfold Func.isWrapper; first | (rw [if_pos (by decide +kernel)]; kernel_rfl) | (rw [if_neg (by decide +kernel)]; exact ⟨rfl, rfl⟩))
    (fun os started H enc _ => lifted os started H enc)
theorem proved : Rows.ReadyRightSaid := over
#print axioms proved
end Go.Proofs.Ytebcdpgalbibkaa.readyRight
