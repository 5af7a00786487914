/- Layer 15: the program's queue: Come. -/
import Derived.Test.YtdemhhmceiaohaaReadyC
import Derived.Deep.RegionLaw
namespace Go.Proofs.Ytdemhhmceiaohaa
open Go.RowKit
set_option linter.unusedVariables false
set_option maxRecDepth 100000
set_option maxHeartbeats 1000000
theorem Try.infoInt : (Try.prog.info? 3).map (fun i => (i.zero, i.size, i.bytes)) = some (some (.int .i64 0), 1, 8) := by kernel_rfl
theorem info3 {P : Program} {t : TypeId} {z : Value} {s b : Nat} (h : (P.info? t).map (fun i => (i.zero, i.size, i.bytes)) = some (some z, s, b)) : ∃ i, P.info? t = some i ∧ i.zero = some z ∧ i.size = s ∧ i.bytes = b := by
  cases hi : P.info? t with
  | none => rw [hi] at h; cases h
  | some i =>
    rw [hi] at h
    simp at h
    exact ⟨i, rfl, h.1, h.2.1, h.2.2⟩
section
variable {w0 w w' : World} {S0 S : Nat → Prop} {L : List Res} {q : Nat} {v : Nat → Value} {s s' : QS}
/-- The queue known by other functions that say the same. -/
theorem que_like {v' : Nat → Value} (H : St w0 S0 w ([ArrR q 120 229 (qV v s)] ++ (List.range 101).map (lsR v' s'.lst))) (hc : ∀ i, i < 229 → qV v' s' i = qV v s i) : St w0 S0 w (QueL q v' s') :=
  H.arr_like 0 rfl hc
theorem que_at {r n : Nat} {x : Value} (hr : r < 101) (hv : v r = x) (hn : (s.lst r).length = n) : (QueL q v s)[1 + r]? = some (LisR 3 1 x n (ivs (s.lst r))) := by
  subst hv hn
  exact fam_at [ArrR q 120 229 (qV v s)] (lsR v s.lst) hr
theorem que_put {r : Nat} {X : Res} (hr : r < 101) (H : St w0 S0 w ((QueL q v s).set (1 + r) X)) : St w0 S0 w ([ArrR q 120 229 (qV v s)] ++ (List.range 101).map (fun j => if j = r then X else lsR v s.lst j)) := by
  have e := fam_set (n := 101) (i := r) [ArrR q 120 229 (qV v s)] (lsR v s.lst) X hr
  rw [← e]; exact H
theorem come_cells {id p : Nat} (hid : id < 64) (hp : p < 101) {B : Option Addr} {n c : Nat} (i : Nat) (hi : i < 229) :
    qV (fun j => if j = p then .slice B n c else v j) (s.come id p) i = if i = 101 + id * 2 + 1 then .int .i64 (p : Int) else if i = 101 + id * 2 then .bool true else if i = p then .slice B n c else qV v s i := by
  unfold qV
  by_cases h1 : i < 101
  · rw [if_pos h1, if_pos h1, if_neg (by omega), if_neg (by omega)]
  · rw [if_neg h1, if_neg h1]
    by_cases h2 : (i - 101) % 2 = 0
    · rw [if_pos h2, if_pos h2, if_neg (by omega)]
      by_cases h3 : i = 101 + id * 2
      · rw [if_pos h3, show (i - 101) / 2 = id by omega]
        show Value.bool ((if id = id then some p else s.pr id).isSome) = _
        rw [if_pos rfl]; rfl
      · rw [if_neg h3, if_neg (by omega)]
        show Value.bool ((if (i - 101) / 2 = id then some p else s.pr ((i - 101) / 2)).isSome) = _
        rw [if_neg (by omega)]
    · rw [if_neg h2, if_neg h2]
      by_cases h3 : i = 101 + id * 2 + 1
      · rw [if_pos h3, show (i - 101) / 2 = id by omega]
        show Value.int .i64 ((((if id = id then some p else s.pr id).getD 0 : Nat) : Int)) = _
        rw [if_pos rfl]; rfl
      · rw [if_neg h3, if_neg (by omega), if_neg (by omega)]
        show Value.int .i64 ((((if (i - 101) / 2 = id then some p else s.pr ((i - 101) / 2)).getD 0 : Nat) : Int)) = _
        rw [if_neg (by omega)]
theorem come_done {r id n' : Nat} {x : Value} {V : Nat → Value} (H : St w0 S0 w ([ArrR q 120 229 V] ++ (List.range 101).map (fun i => if i = r then LisR 3 1 x n' (ivs (s.lst r) ++ [.int .i64 (id : Int)]) else lsR v s.lst i))) (hV : ∀ i, i < 229 → qV (fun j => if j = r then x else v j) (s.come id r) i = V i) (hn : (s.lst r).length + 1 = n') :
    St w0 S0 w (QueL q (fun j => if j = r then x else v j) (s.come id r)) := by
  have H2 : St w0 S0 w ([ArrR q 120 229 (qV (fun j => if j = r then x else v j) (s.come id r))] ++ (List.range 101).map (fun i => if i = r then LisR 3 1 x n' (ivs (s.lst r) ++ [.int .i64 (id : Int)]) else lsR v s.lst i)) := H.arr_like 0 rfl hV
  unfold QueL
  rw [fam_like (R := lsR (fun i => if i = r then x else v i) (s.come id r).lst) (R' := fun i => if i = r then LisR 3 1 x n' (ivs (s.lst r) ++ [.int .i64 (id : Int)]) else lsR v s.lst i) fun i hi => by
    unfold lsR QS.come
    dsimp only
    by_cases e : i = r
    · subst e
      rw [if_pos rfl, if_pos rfl, if_pos rfl, ivs_app, List.length_append, ← hn]; rfl
    · rw [if_neg e, if_neg e, if_neg e]]
  exact H2
theorem Come_c {m : Nat} (h : QueR q s w S) (hs : s.ok m) (id p f : Int) (hP : ComeP s id p f s') :
    Calls Try.prog 29 #[.pointer (some ⟨q, 0, none⟩), .int .i64 id, .int .i64 p] w fun e w' => e = .returned (.int .i64 f) ∧ ∃ S', QueR q s' w' S' ∧ Did S S' w w' := by
  obtain ⟨v, hr⟩ := h
  have s0 := St.start hr
  have S0' := Lib.hid s0
  have MY := Lib.hid (fun b hb => may_c id p w b hb)
  have HA := Lib.hid (fun b hb => has_c s0 id b hb)
  have HS := Lib.hid hs
  obtain ⟨iI, hiI, hzI, hsI, hbI⟩ := info3 Try.infoInt
  clear hr hs s0
  rcases hP with ⟨h1, rfl, rfl⟩ | ⟨h1, h2, rfl, rfl⟩ | ⟨h1, h2, rfl, rfl⟩
  · have M2 := Lib.hid (MY.out false (decide_eq_false h1).symm)
    clear h1 MY HA
    go_enter Try.func29, Try.ntmps29
    go_wp2_with fail
    refine M2.out.mono ?_
    rintro e w1 ⟨rfl, rfl⟩
    go_wp2_with fail
    go_ret
    exact ⟨rfl, S0'.out.fin fun S' h => ⟨v, h⟩⟩
  · have M2 := Lib.hid (MY.out true (decide_eq_true h1).symm)
    have H2 := Lib.hid (HA.out true (decide_eq_true h2).symm)
    clear h1 h2 MY HA
    go_enter Try.func29, Try.ntmps29
    go_wp2_with fail
    refine M2.out.mono ?_
    rintro e w1 ⟨rfl, rfl⟩
    go_wp2_with fail
    refine H2.out.mono ?_
    rintro e w1 ⟨rfl, rfl⟩
    go_wp2_with fail
    go_ret
    exact ⟨rfl, S0'.out.fin fun S' h => ⟨v, h⟩⟩
  · have M2 := Lib.hid (MY.out true (decide_eq_true h1).symm)
    have H2 := Lib.hid (HA.out false (decide_eq_false fun h => by have := h.2; rw [h2] at this; cases this).symm)
    obtain ⟨⟨i0, i1⟩, p0, p1⟩ := h1
    obtain ⟨j, rfl⟩ : ∃ j : Nat, (j : Int) = id := ⟨id.toNat, by omega⟩
    obtain ⟨r, rfl⟩ : ∃ r : Nat, (r : Int) = p := ⟨p.toNat, by omega⟩
    rw [Int.toNat_natCast] at *
    have hj : j < 64 := by omega
    have hr : r < 101 := by omega
    have s1 := (S0'.out.alloc (.cells #[.int .i64 (j : Int)] 3)).drew
    have sh := que_lst S0'.out hr
    obtain ⟨A, c, hv, hn, hc⟩ := sh.shape
    have hlen := HS.out.lst_len r
    have hmx := HS.out.mx
    have hl := que_lst s1 hr
    rw [hv] at hl
    obtain ⟨n, hn'⟩ : ∃ n, (s.lst r).length = n := ⟨_, rfl⟩
    rw [hn'] at hl hv hlen hn
    have k1 := que_cell S0'.out (i := r) (by omega)
    rw [qV_lst hr, hv] at k1
    have k2 := que_cell s1 (i := r) (by omega)
    rw [qV_lst hr, hv] at k2
    have S1 := Lib.hid s1
    have HL := Lib.hid hl
    have HC := Lib.hid (fun (B : Option Addr) (n c : Nat) i hi => come_cells (v := v) (s := s) hj hr (B := B) (n := n) (c := c) i hi)
    have RB := Lib.hid (show Rds ((w.alloc (.cells #[.int .i64 (j : Int)] 3)).drew) (some ⟨w.heap.size, 0, none⟩) 1 1 [.int .i64 (j : Int)] from rds_box w 3 (.int .i64 (j : Int)))
    have HAT := Lib.hid (que_at (q := q) hr hv hn')
    have HV := Lib.hid hv
    have HN := Lib.hid hn'
    clear h2 MY HA sh s1 hl hv hn'
    go_enter Try.func29, Try.ntmps29
    go_wp2_with fail
    refine M2.out.mono ?_
    rintro e w1 ⟨rfl, rfl⟩
    go_wp2_with fail
    refine H2.out.mono ?_
    rintro e w1 ⟨rfl, rfl⟩
    go_wp2_with fail
    go_region_law (first
      | (refine step_lis (by rfl) _ _ _ (by rfl) 3 iI (.int .i64 0) 1 8 Try.underlying39 hiI hzI hsI hbI (by rfl) (by omega) (.slice A n c) n (ivs (s.lst r)) (by rfl) HL.out _ 1 1 [.int .i64 (j : Int)] (by rfl) RB.out (by simp [Value.oneCell']) (by unfold maxLen; omega) (by omega) ?_; intro B cB w5 hl hg hat; have t5 := que_put hr (S1.out.lis_put (1 + r) HAT.out hl hg hat); have m1 := t5.arr_cell 0 rfl (k := r) (by omega); have f1 := t5.arr_frozen 0 rfl r; rw [qV_lst hr, HV.out] at m1; have t6 := t5.arr_set 0 rfl (k := r) (by omega) (.slice B (n + 1) cB); have m2 := t6.arr_cell 0 rfl (k := 101 + j * 2) (by omega); have m3 := t6.arr_cell 0 rfl (k := 101 + j * 2 + 1) (by omega); have f2 := t6.arr_frozen 0 rfl (101 + j * 2); have f3 := t6.arr_frozen 0 rfl (101 + j * 2 + 1); rw [if_neg (by omega)] at m2 m3; rw [qV_there] at m2; rw [qV_prio] at m3; have T6 := Lib.hid t6; clear hl hg hat t5 t6))
    all_goals
      go_wp2_with fail
      go_ret
      refine ⟨rfl, ?_⟩
      have t7 := (T6.out.arr_set 0 rfl (k := 101 + j * 2) (by omega) (.bool true)).arr_set 0 rfl (k := 101 + j * 2 + 1) (by omega) (.int .i64 (r : Int))
      exact (come_done t7 (fun i hi => HC.out B (n + 1) cB i hi) (by rw [HN.out])).fin fun S' h => ⟨_, h⟩
end
end Go.Proofs.Ytdemhhmceiaohaa
