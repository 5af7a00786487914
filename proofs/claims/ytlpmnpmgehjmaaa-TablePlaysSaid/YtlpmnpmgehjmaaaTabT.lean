/- Layer 2: the document's own table: Put, New, All, Same. -/
import Derived.Test.YtlpmnpmgehjmaaaTabS
namespace Go.Proofs.Ytlpmnpmgehjmaaa
open Go.RowKit
set_option linter.unusedVariables false
set_option maxRecDepth 100000
set_option maxHeartbeats 400000
section
variable {n : Nat} {gen gen' : Nat → Int} {st st' : Nat → Option Int} {s c v f x : Int} {r : Nat}
theorem put_val {V : Nat → Int} {i : Nat} {x : Int} (hV : ∀ j, j < n → ∀ v, st j = some v → V j = v) : ∀ j, j < n → ∀ v, (fun j => if j = i then some x else st j) j = some v → (fun j => if j = i then x else V j) j = v := set_val hV
theorem RPut_c (hn : n ≤ 1000) (hR : PutR n gen st x s c f st') : ∀ w S, RefR r n gen st w S → Calls Try.prog 14 #[.pointer (some ⟨r, 0, none⟩), .int .i64 x] w fun e w' => e = .returned (.tuple #[.agg #[.int .i64 s, .int .u64 c], .int .i64 f]) ∧ ∃ S', RefR r n gen st' w' S' ∧ Did S S' w w' := by
  rintro w S ⟨gb, ub, vb, V, hV, hs⟩
  have s1 : St w S _ [_, _, _, _, _] := (St.start hs).box 32 #[.int .i64 0, .int .u64 0]
  obtain ⟨c0, c1, c2⟩ := (s1.blk 0 rfl).three
  rcases hR with ⟨i, hi, hu, hf, rfl, rfl, rfl, rfl⟩ | ⟨hfull, rfl, rfl, rfl, rfl⟩
  · have cu := s1.arr_cell 2 rfl hi
    rw [hf] at cu
    simp only [Option.isSome_none] at cu
    have fu := s1.arr_frozen 2 rfl i
    have s2' := s1.arr_set 2 rfl hi (.bool (some x).isSome)
    rw [upd_used] at s2'
    have s2 : St w S _ [_, _, _, _, _] := s2'
    simp only [Option.isSome_some] at s2
    obtain ⟨e0, e1, e2⟩ := (s2.blk 0 rfl).three
    have cv := s2.arr_cell 3 rfl hi
    have fv := s2.arr_frozen 3 rfl i
    have s3' := s2.arr_set 3 rfl hi (.int .i64 x)
    rw [upd_int] at s3'
    have s3 : St w S _ [_, _, _, _, _] := s3'
    obtain ⟨g0, g1, g2⟩ := (s3.blk 0 rfl).three
    have cg := s3.arr_cell 1 rfl hi
    have bb := s3.blk 4 rfl
    obtain ⟨b0, b1⟩ := bb.two
    have f0 := bb.frozen 0
    have f1 := bb.frozen 1
    have s4 : St w S _ [_, _, _, _, _] := (s3.set_ 4 rfl 0 (.int .i64 i))
    have s5 : St w S _ [_, _, _, _, _] := (s4.set_ 4 rfl 1 (.int .u64 (gen i)))
    have q5 := s5.blk 4 rfl
    have q0 := q5.cell 0
    have q1 := q5.cell 1
    simp at q0 q1
    have HV := Lib.hid (put_val (i := i) (x := x) hV)
    have HU := Lib.hid hu
    have S5 := Lib.hid s5
    have S1 := Lib.hid s1
    clear s5 s4 s3 s3' s2 s2' s1 hV hu hs
    go_enter Try.func14, Try.ntmps14
    go_wp2
    go_loopw [6] (fun j wr => ∃ k : Nat, k ≤ i ∧ j = .int .i64 k ∧ wr = w.alloc (.cells #[.int .i64 0, .int .u64 0] 32)) (fun j _ => n - (intOf j).toNat)
    case atStart => exact ⟨0, by omega, rfl, rfl⟩
    case round =>
      obtain ⟨k, hk, rfl, rfl⟩ := hrel
      by_cases hlt : k < i
      · obtain ⟨v, hv⟩ := HU.out k hlt
        have ck := S1.out.arr_cell 2 rfl (show k < n by omega)
        rw [hv] at ck
        simp only [Option.isSome_some] at ck
        clear hv
        go_wp2
        go_roundw
        case rel => exact ⟨k + 1, by omega, by go_num, trivial⟩
        case measure => simp [intOf]; omega
      · obtain rfl : k = i := by omega
        go_wp2
        (try simp only [Exit.inBlock, Exit.then])
        refine bodyPost_ret (v := .tuple #[.agg #[.int .i64 k, .int .u64 (gen k)], .int .i64 0]) ?_ rfl ⟨rfl, (S5.out.drop 4 (by simp)).fin fun S' h => ⟨gb, ub, vb, _, HV.out, h⟩⟩
        simp [results, go_sem, q0, q1]
  · have hbel := (s1.drop 4 (by simp))
    have HB := Lib.hid hbel
    have bb := s1.blk 4 rfl
    obtain ⟨b0, b1⟩ := bb.two
    have f0 := bb.frozen 0
    have f1 := bb.frozen 1
    have s4 : St w S _ [_, _, _, _, _] := (s1.set_ 4 rfl 0 (.int .i64 0))
    have s5 : St w S _ [_, _, _, _, _] := (s4.set_ 4 rfl 1 (.int .u64 0))
    have S1 := Lib.hid s1
    have HV := Lib.hid hV
    clear hbel s1 hV hs s4 s5
    go_enter Try.func14, Try.ntmps14
    go_wp2
    go_loopw [6] (fun j wr => ∃ k : Nat, k ≤ n ∧ j = .int .i64 k ∧ wr = w.alloc (.cells #[.int .i64 0, .int .u64 0] 32)) (fun j _ => n - (intOf j).toNat)
    case atStart => exact ⟨0, by omega, rfl, rfl⟩
    case round =>
      obtain ⟨k, hk, rfl, rfl⟩ := hrel
      by_cases hlt : k < n
      · obtain ⟨v, hv⟩ := hfull k hlt
        have ck := S1.out.arr_cell 2 rfl hlt
        rw [hv] at ck
        simp only [Option.isSome_some] at ck
        clear hv
        go_wp2
        go_roundw
        case rel => exact ⟨k + 1, by omega, by go_num, trivial⟩
        case measure => simp [intOf]; omega
      · go_wp2
        (try simp only [Exit.inBlock, Exit.then])
        refine bodyPost_ret (v := .tuple #[.agg #[.int .i64 0, .int .u64 0], .int .i64 4]) ?_ rfl ⟨rfl, HB.out.fin fun S' h => ⟨gb, ub, vb, _, HV.out, h⟩⟩
        simp [results, go_sem, b0, b1]
theorem Try.infoU : (Try.prog.info? 30).map (fun i => (i.zero, i.size, i.bytes)) = some (some (.int .u64 0), 1, 8) := by kernel_rfl
theorem Try.infoI : (Try.prog.info? 3).map (fun i => (i.zero, i.size, i.bytes)) = some (some (.int .i64 0), 1, 8) := by kernel_rfl
theorem Try.infoB : (Try.prog.info? 4).map (fun i => (i.zero, i.size, i.bytes)) = some (some (.bool false), 1, 1) := by kernel_rfl
theorem RNew_o {w0 w : World} {S0 : Nat → Prop} {L : List Res} (H : St w0 S0 w L) (h0 : 1 ≤ n) (hn : n ≤ 1000) :
    Calls Try.prog 12 #[.int .i64 n] w fun e w' => ∃ r, e = .returned (.pointer (some ⟨r, 0, none⟩)) ∧ St w0 S0 w' (L ++ [RefR r n (fun _ => 1) (fun _ => none)]) := by
  have key : ∀ w : World, Calls Try.prog 12 #[.int .i64 n] w fun e w' => ∃ r gb ub vb, e = .returned (.pointer (some ⟨r, 0, none⟩)) ∧ St w None w' (RefL r gb ub vb n (fun _ => 1) (fun _ => none) (fun _ => 0)) := by
    intro w
    obtain ⟨iU, hiU, hzU, hsU, hbU⟩ := info_parts Try.infoU
    obtain ⟨iI, hiI, hzI, hsI, hbI⟩ := info_parts Try.infoI
    obtain ⟨iB, hiB, hzB, hsB, hbB⟩ := info_parts Try.infoB
    have mU := fun W => run_make_rowN (P := Try.prog) 62 30 iU (.int .u64 0) Try.underlying62 hiU hzU rfl hsU .i64 .i64 n (by rw [hbU]; omega) (by omega) W
    have mI := fun W => run_make_rowN (P := Try.prog) 49 3 iI (.int .i64 0) Try.underlying49 hiI hzI rfl hsI .i64 .i64 n (by rw [hbI]; omega) (by omega) W
    have mB := fun W => run_make_rowN (P := Try.prog) 53 4 iB (.bool false) Try.underlying53 hiB hzB rfl hsB .i64 .i64 n (by rw [hbB]; omega) (by omega) W
    clear hiU hzU hsU hbU hiI hzI hsI hbI hiB hzB hsB hbB
    go_enter Try.func12, Try.ntmps12
    go_wp2_with fail
    go_cut [3] (fun p wx => ∃ r gb ub vb, p = .pointer (some ⟨r, 0, none⟩) ∧ St w None wx (RefL r gb ub vb n (fun _ => 0) (fun _ => none) (fun _ => 0)))
    case first =>
      go_region
      all_goals
        go_wp2_with fail
        go_meet
        first
          | exact ⟨_, _, _, _, rfl, (three_made w n 30 4 3 (.int .u64 0) (.bool false) (.int .i64 0) _ _).swap23.swap12.swap01⟩
          | exact ⟨_, _, _, _, rfl, (three_made w n 30 3 4 (.int .u64 0) (.int .i64 0) (.bool false) _ _).swap12.swap23.swap12.swap01⟩
          | exact ⟨_, _, _, _, rfl, (three_made w n 4 30 3 (.bool false) (.int .u64 0) (.int .i64 0) _ _).swap01.swap23.swap12.swap01⟩
          | exact ⟨_, _, _, _, rfl, (three_made w n 4 3 30 (.bool false) (.int .i64 0) (.int .u64 0) _ _).swap12.swap01.swap23.swap12.swap01⟩
          | exact ⟨_, _, _, _, rfl, (three_made w n 3 30 4 (.int .i64 0) (.int .u64 0) (.bool false) _ _).swap01.swap12.swap23.swap12.swap01⟩
          | exact ⟨_, _, _, _, rfl, (three_made w n 3 4 30 (.int .i64 0) (.bool false) (.int .u64 0) _ _).swap01.swap12.swap01.swap23.swap12.swap01⟩
    case rest =>
    clear mU mI mB
    obtain ⟨r, gb, ub, vb, rfl, s1⟩ := hcut
    go_wp2_with fail
    go_loopw [4] (fun y wr => ∃ (k : Nat) (gen : Nat → Int), k ≤ n ∧ y = .int .i64 k ∧ (∀ j, j < k → gen j = 1) ∧ St w None wr (RefL r gb ub vb n gen (fun _ => none) (fun _ => 0))) (fun y _ => n - (intOf y).toNat)
    case atStart => exact ⟨0, _, by omega, rfl, fun j hj => absurd hj (by omega), s1⟩
    case round =>
      obtain ⟨k, gen, hk, rfl, hg, sr⟩ := hrel
      by_cases hlt : k < n
      · obtain ⟨c0, c1, c2⟩ := (sr.blk 0 rfl).three
        have fr := sr.arr_frozen 1 rfl k
        have cm := sr.arr_cell 1 rfl hlt
        have s2 := sr.arr_set 1 rfl hlt (.int .u64 1)
        rw [upd_int] at s2
        have S2 := Lib.hid s2
        have HG := Lib.hid (show ∀ j, j < k + 1 → (fun j => if j = k then 1 else gen j) j = 1 from fun j hj => by dsimp only; split; rfl; exact hg j (by omega))
        clear s2 sr hg
        generalize gen k = gk at *
        go_wp2
        go_roundw
        case rel => exact ⟨k + 1, _, by omega, by go_num, HG.out, S2.out⟩
        case measure => simp [intOf]; omega
      · have s2 : St w None _ (RefL r gb ub vb n (fun _ => 1) (fun _ => none) (fun _ => 0)) := sr.arr_like (V' := fun _ => .int .u64 1) 1 rfl fun j hj => by rw [hg j (by omega)]
        have S2 := Lib.hid s2
        clear s2 sr hg
        go_wp2
        go_ret
        exact ⟨r, gb, ub, vb, rfl, S2.out⟩
  refine (key w).mono ?_
  rintro e w' ⟨r, gb, ub, vb, he, hs⟩
  obtain ⟨S', h1, h2, h3⟩ := hs.made
  exact ⟨r, he, H.more h3 (Star.one (RefR.ok _ _ _ _) ⟨gb, ub, vb, _, (fun _ _ _ h => by cases h), h1⟩) h2⟩
theorem RAll_o {w0 w : World} {S0 : Nat → Prop} {L : List Res} (H : St w0 S0 w L) (i : Nat) (hi : L[i]? = some (RefR r n gen st)) (hn : n ≤ 1000) :
    Calls Try.prog 21 #[.pointer (some ⟨r, 0, none⟩)] w fun e w' => ∃ A cap, e = .returned (.slice A (cnt st n) cap) ∧ St w0 S0 w' (L ++ [RowR 32 2 (.slice A (cnt st n) cap) (cnt st n) (hs gen st n)]) := by
  obtain ⟨S, gb, ub, vb, V, _, hR⟩ := H.get i hi
  have s0 := St.start hR
  obtain ⟨i0, hi, hz0, hz1, hz2⟩ := info_parts Try.infoHandle
  have HH := Lib.hid H
  have S0' := Lib.hid s0
  clear H s0 hR
  go_enter Try.func21, Try.ntmps21
  go_wp2
  go_loopw [3, 4] (fun al i wr => ∃ k : Nat, k ≤ n ∧ i = .int .i64 k ∧ wr.ownsRow w.heap.size 32 2 al (cnt st k) (hs gen st k) ∧ Below w.heap.size w wr) (fun _ i _ => n - (intOf i).toNat)
  case atStart => exact ⟨0, by omega, rfl, row_nil _ _ _ _, Below.refl _ _⟩
  case round =>
    obtain ⟨k, hk, rfl, hown, hB⟩ := hrel
    have sr := S0'.out.stay hB
    obtain ⟨c0, c1, c2⟩ := (sr.blk 0 rfl).three
    by_cases hlt : k < n
    · have cu := sr.arr_cell 2 rfl hlt
      have cg := sr.arr_cell 1 rfl hlt
      have hcnt := cnt_le st k
      clear sr
      cases hv : st k with
      | none =>
        rw [hv] at cu
        simp only [Option.isSome_none] at cu
        have HC := Lib.hid (show cnt st (k + 1) = cnt st k by simp [cnt, hv])
        have HX := Lib.hid (show hs gen st (k + 1) = hs gen st k by simp [hs, hv])
        go_wp2
        go_roundw
        case rel => exact ⟨k + 1, by omega, by go_num, by rw [HC.out, HX.out]; exact hown, hB⟩
        case measure => simp [intOf]; omega
      | some v =>
        rw [hv] at cu
        simp only [Option.isSome_some] at cu
        have HC := Lib.hid (show cnt st (k + 1) = cnt st k + 1 by simp [cnt, hv])
        have HX := Lib.hid (show hs gen st (k + 1) = hs gen st k ++ [.int .i64 k, .int .u64 (gen k)] by simp [hs, hv])
        obtain ⟨gk, hgk⟩ : ∃ gk, gen k = gk := ⟨_, rfl⟩
        rw [hgk] at cg HX
        clear hgk hv
        go_wp2_with (at_builtin; refine wpList_append_own _ rfl _ _ 40 rfl w.heap.size 32 i0 (.agg #[.int .i64 0, .int .u64 0]) 2 16 Try.underlying40 hi hz0 hz1 hz2 rfl (by decide) _ _ _ rfl (hown.alloc _) ⟨wr.heap.size, 0, none⟩ 1 1 [.int .i64 k, .int .u64 gk] rfl rfl (fun j u hj => by match j, hj with | 0, hj => simpa [Addr.add] using hj | 1, hj => simpa [Addr.add] using hj | j + 2, hj => simp at hj) (by simp [Value.oneCell']) (by unfold maxLen; omega) (by omega) (by have := hB.size; simp; omega) ?_; intro v2 w2 hown2 hgrow2 _)
        have hbl : Below w.heap.size (wr.alloc (.cells #[.int .i64 k, .int .u64 gk] 32)) w2 := ⟨hgrow2.os, hgrow2.tape, hgrow2.output, hgrow2.size, fun j hj => hgrow2.block j (by have := hB.size; simp; omega) (fun he => absurd (row_block hown he.symm) (by omega))⟩
        exact ⟨⟨k + 1, by omega, by go_num, by rw [HC.out, HX.out]; exact hown2, (hB.alloc hB.size _).trans hbl⟩, by simp [intOf]; omega⟩
    · obtain rfl : k = n := by omega
      obtain ⟨A, cap, rfl⟩ := row_shape hown
      go_wp2
      go_ret
      exact ⟨A, cap, rfl, HH.out.rowed hB hown⟩
theorem Same_o {w0 w : World} {S0 : Nat → Prop} {L : List Res} {A B : Option Addr} {cap cap' : Nat} {hh : List Value} {m : Nat} (H : St w0 S0 w L) (hm : m ≤ 1000) (i j : Nat) (hi : L[i]? = some (RowR 32 2 (.slice A m cap) m hh)) (hj : L[j]? = some (RowR 32 2 (.slice B m cap') m hh))
    (hk : ∀ k, k < m → ∃ x y, hh[k * 2]? = some (.int .i64 x) ∧ hh[k * 2 + 1]? = some (.int .u64 y)) :
    Calls Try.prog 22 #[.slice A m cap, .slice B m cap'] w fun e w' => e = .returned (.bool true) ∧ St w0 S0 w' L := by
  obtain ⟨A1, c1, hv1, hn1, hx1, _, hc1⟩ := H.row_cells i hi
  obtain ⟨A2, c2, hv2, hn2, hx2, _, hc2⟩ := H.row_cells j hj
  injection hv1 with e1 _ e2
  injection hv2 with e3 _ e4
  subst e1; subst e2; subst e3; subst e4
  have HH := Lib.hid H
  clear H hi hj
  unfold maxLen at hx1 hx2
  go_enter Try.func22, Try.ntmps22
  go_wp2
  go_loopw [5] (fun y wr => ∃ k d : Nat, k ≤ m ∧ y = .int .i64 k ∧ wr = w.drewN d) (fun y _ => m - (intOf y).toNat)
  case atStart => exact ⟨0, 0, by omega, rfl, rfl⟩
  case round =>
    obtain ⟨k, d, hkm, rfl, rfl⟩ := hrel
    by_cases hlt : k < m
    · obtain ⟨x, y, hx, hy⟩ := hk k hlt
      obtain ⟨g, rfl, hg⟩ := hc1 (by omega)
      obtain ⟨g', rfl, hg'⟩ := hc2 (by omega)
      have a0 := hg _ _ hx
      have a1 := hg _ _ hy
      have a2 := hg' _ _ hx
      have a3 := hg' _ _ hy
      have i0 : (0 : Int) ≤ (k : Int) := by omega
      have i1 : (k : Int) < (m : Int) := by omega
      clear hg hg' hk hc1 hc2
      go_wp2_with fail
      go_quiet (fail)
      go_wp2
      go_roundw
      case rel => exact ⟨k + 1, _, by omega, by go_num, rfl⟩
      case measure => simp [intOf]; omega
    · go_wp2
      go_ret
      exact ⟨rfl, HH.out.drewN _⟩
end
end Go.Proofs.Ytlpmnpmgehjmaaa
