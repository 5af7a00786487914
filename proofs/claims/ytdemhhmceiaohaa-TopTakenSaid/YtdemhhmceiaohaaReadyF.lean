/- Layer 15: the program's queue: Go, Change, First, All. -/
import Derived.Test.YtdemhhmceiaohaaReadyE
import Derived.StillTailTactics
import Derived.Deep.RegionHeld3
namespace Go.Proofs.Ytdemhhmceiaohaa
open Go.RowKit
set_option linter.unusedVariables false
set_option maxRecDepth 100000
set_option maxHeartbeats 1000000
theorem idx_of {l : List Nat} {x : Nat} (h : x ∈ l) : ∃ a, l[a]? = some x ∧ (∀ b, b < a → l[b]? ≠ some x) ∧ a < l.length := by
  induction l with
  | nil => cases h
  | cons y t ih =>
    by_cases e : y = x
    · exact ⟨0, by simp [e], fun b hb => by omega, by simp⟩
    · obtain ⟨a, h1, h2, h3⟩ := ih ((List.mem_cons.1 h).resolve_left fun hc => e hc.symm)
      refine ⟨a + 1, by simpa using h1, fun b hb => ?_, by simp; omega⟩
      cases b with
      | zero => simp [e]
      | succ b => simpa using h2 b (by omega)
theorem erase_filter {l : List Nat} {x a : Nat} (hn : l.Nodup) (ha : l[a]? = some x) : l.eraseIdx a = l.filter fun j => decide (j ≠ x) := by
  induction l generalizing a with
  | nil => simp at ha
  | cons y t ih =>
    obtain ⟨hy, ht⟩ := List.nodup_cons.1 hn
    cases a with
    | zero =>
      simp at ha
      subst ha
      rw [List.filter_cons_of_neg (by simp)]
      show t = _
      exact (List.filter_eq_self.2 fun j hj => decide_eq_true (p := j ≠ y) fun hc => hy (by rw [← hc]; exact hj)).symm
    | succ a =>
      have ha : t[a]? = some x := by simpa using ha
      have hx : x ∈ t := List.mem_of_getElem? ha
      have hyx : y ≠ x := fun hc => hy (by rw [hc]; exact hx)
      rw [List.filter_cons_of_pos (by simpa using hyx)]
      show y :: t.eraseIdx a = _
      rw [ih ht ha]
theorem filter_none {l : List Nat} {x : Nat} (h : x ∉ l) : (l.filter fun j => decide (j ≠ x)) = l := List.filter_eq_self.2 fun j hj => decide_eq_true (p := j ≠ x) fun hc => h (by rw [← hc]; exact hj)
section
variable {w0 w w' : World} {S0 S : Nat → Prop} {L : List Res} {q : Nat} {v : Nat → Value} {s s' : QS}
theorem go_cells {id r : Nat} (hid : id < 64) (hr : r < 101) {x : Value} (i : Nat) (hi : i < 229) :
    qV (fun j => if j = r then x else v j) (s.go id) i = if i = 101 + id * 2 + 1 then .int .i64 0 else if i = 101 + id * 2 then .bool false else if i = r then x else qV v s i := by
  unfold qV
  by_cases h1 : i < 101
  · rw [if_pos h1, if_pos h1, if_neg (by omega), if_neg (by omega)]
  · rw [if_neg h1, if_neg h1]
    by_cases h2 : (i - 101) % 2 = 0
    · rw [if_pos h2, if_pos h2, if_neg (by omega)]
      by_cases h3 : i = 101 + id * 2
      · rw [if_pos h3, show (i - 101) / 2 = id by omega]
        show Value.bool ((if id = id then none else s.pr id).isSome) = _
        rw [if_pos rfl]; rfl
      · rw [if_neg h3, if_neg (by omega)]
        show Value.bool ((if (i - 101) / 2 = id then none else s.pr ((i - 101) / 2)).isSome) = _
        rw [if_neg (by omega)]
    · rw [if_neg h2, if_neg h2]
      by_cases h3 : i = 101 + id * 2 + 1
      · rw [if_pos h3, show (i - 101) / 2 = id by omega]
        show Value.int .i64 ((((if id = id then none else s.pr id).getD 0 : Nat) : Int)) = _
        rw [if_pos rfl]; rfl
      · rw [if_neg h3, if_neg (by omega), if_neg (by omega)]
        show Value.int .i64 ((((if (i - 101) / 2 = id then none else s.pr ((i - 101) / 2)).getD 0 : Nat) : Int)) = _
        rw [if_neg (by omega)]
theorem go_done {m r id n' : Nat} {x : Value} {V : Nat → Value} {xs : List Nat} (hs : s.ok m) (hp : s.pr id = some r) (H : St w0 S0 w ([ArrR q 120 229 V] ++ (List.range 101).map (fun i => if i = r then LisR 3 1 x n' (ivs xs) else lsR v s.lst i))) (hV : ∀ i, i < 229 → qV (fun j => if j = r then x else v j) (s.go id) i = V i) (hx : xs = (s.lst r).filter fun j => decide (j ≠ id)) (hn : xs.length = n') :
    St w0 S0 w (QueL q (fun j => if j = r then x else v j) (s.go id)) := by
  have H2 : St w0 S0 w ([ArrR q 120 229 (qV (fun j => if j = r then x else v j) (s.go id))] ++ (List.range 101).map (fun i => if i = r then LisR 3 1 x n' (ivs xs) else lsR v s.lst i)) := H.arr_like 0 rfl hV
  unfold QueL
  rw [fam_like (R := lsR (fun i => if i = r then x else v i) (s.go id).lst) (R' := fun i => if i = r then LisR 3 1 x n' (ivs xs) else lsR v s.lst i) fun i hi => by
    unfold lsR QS.go
    dsimp only
    by_cases e : i = r
    · subst e
      rw [if_pos rfl, if_pos rfl, ← hx, hn]
    · rw [if_neg e, if_neg e, filter_none fun hc => e (by have := (hs.mem i id).1 hc; rw [hp] at this; injection this with this; exact this.symm)]]
  exact H2
theorem Go_c {m : Nat} (h : QueR q s w S) (hs : s.ok m) (id f : Int) (hP : GoP s id f s') :
    Calls Try.prog 73 #[.pointer (some ⟨q, 0, none⟩), .int .i64 id] w fun e w' => e = .returned (.int .i64 f) ∧ ∃ S', QueR q s' w' S' ∧ Did S S' w w' := by
  obtain ⟨v, hr⟩ := h
  have s0 := St.start hr
  have S0' := Lib.hid s0
  have HA := Lib.hid (fun b hb => has_c s0 id b hb)
  have HS := Lib.hid hs
  clear hr hs s0
  rcases hP with ⟨h1, rfl, rfl⟩ | ⟨h1, rfl, rfl⟩
  · have H2 := Lib.hid (HA.out false (decide_eq_false h1).symm)
    clear h1 HA
    go_enter Try.func73, Try.ntmps73
    go_wp2_with fail
    refine H2.out.mono ?_
    rintro e w1 ⟨rfl, rfl⟩
    go_wp2_with fail
    go_ret
    exact ⟨rfl, S0'.out.fin fun S' h => ⟨v, h⟩⟩
  · have H2 := Lib.hid (HA.out true (decide_eq_true h1).symm)
    obtain ⟨⟨i0, i1⟩, h2⟩ := h1
    obtain ⟨j, rfl⟩ : ∃ j : Nat, (j : Int) = id := ⟨id.toNat, by omega⟩
    rw [Int.toNat_natCast] at *
    obtain ⟨r, hpr⟩ := Option.isSome_iff_exists.1 h2
    have hj : j < 64 := by omega
    have hr : r < 101 := (HS.out.bd j r hpr).2
    obtain ⟨a, ha, hb, hal⟩ := idx_of ((HS.out.mem r j).2 hpr)
    have sh := que_lst S0'.out hr
    obtain ⟨A, c, hv, hn, hc⟩ := sh.shape
    have hlen := HS.out.lst_len r
    have hmx := HS.out.mx
    obtain ⟨n, hn'⟩ : ∃ n, (s.lst r).length = n := ⟨_, rfl⟩
    rw [hv] at sh
    rw [hn'] at sh hv hlen hn hal
    have k1 := que_cell S0'.out (i := r) (by omega)
    rw [qV_lst hr, hv] at k1
    have k2 := que_cell S0'.out (i := 101 + j * 2 + 1) (by omega)
    rw [qV_prio, hpr] at k2
    have k2' : w.cell? ⟨q, 101 + j * 2 + 1, none⟩ = some (.int .i64 (r : Int)) := k2
    have IX := Lib.hid (Index_c sh (by omega) j a ha hb)
    have s1 := S0'.out.drew
    have DL := Lib.hid (Delete_o s1 (que_at (q := q) hr hv hn') (by omega) a hal)
    have HC := Lib.hid (fun (x : Value) i hi => go_cells (v := v) (s := s) hj hr (x := x) i hi)
    have EF := Lib.hid (erase_filter (HS.out.nd r) ha)
    have EL := Lib.hid (show ((s.lst r).eraseIdx a).length = n - 1 by rw [List.length_eraseIdx, if_pos (by omega)]; omega)
    have HPR := Lib.hid hpr
    have hw : IntKind.i64.wrap ((a : Int) + 1) = (a : Int) + 1 := IntWalk.i64_in _ ⟨by omega, by omega⟩
    have HV := Lib.hid hv
    have r0 : (0 : Int) ≤ (r : Int) := by omega
    have r1 : (r : Int) < 101 := by omega
    clear ha hb h2 HA sh hpr hn' s1 k2 hv
    go_enter Try.func73, Try.ntmps73
    go_wp2_with fail
    refine H2.out.mono ?_
    rintro e w1 ⟨rfl, rfl⟩
    go_wp2_with fail
    refine IX.out.mono ?_
    rintro e w1 ⟨rfl, rfl⟩
    go_wp2_with fail
    go_region_law (first
      | (go_simp; refine DL.out.mono ?_; rintro e w3 ⟨rfl, s3⟩; have t5 := que_put hr s3; have m1 := t5.arr_cell 0 rfl (k := r) (by omega); have f1 := t5.arr_frozen 0 rfl r; rw [qV_lst hr, HV.out] at m1; have t6 := t5.arr_set 0 rfl (k := r) (by omega) (.slice A (n - 1) c); have m2 := t6.arr_cell 0 rfl (k := 101 + j * 2) (by omega); have m3 := t6.arr_cell 0 rfl (k := 101 + j * 2 + 1) (by omega); have f2 := t6.arr_frozen 0 rfl (101 + j * 2); have f3 := t6.arr_frozen 0 rfl (101 + j * 2 + 1); rw [if_neg (by omega)] at m2 m3; rw [qV_there] at m2; rw [qV_prio] at m3; have T6 := Lib.hid t6; clear t5 t6))
    all_goals
      go_wp2_with fail
      go_ret
      refine ⟨rfl, ?_⟩
      have t7 := (T6.out.arr_set 0 rfl (k := 101 + j * 2) (by omega) (.bool false)).arr_set 0 rfl (k := 101 + j * 2 + 1) (by omega) (.int .i64 0)
      exact (go_done HS.out HPR.out t7 (fun i hi => HC.out (.slice A (n - 1) c) i hi) EF.out EL.out).fin fun S' h => ⟨_, h⟩
end
end Go.Proofs.Ytdemhhmceiaohaa
