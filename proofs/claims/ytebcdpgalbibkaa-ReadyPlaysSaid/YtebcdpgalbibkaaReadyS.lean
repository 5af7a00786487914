/- Layer 15: the document's own queue: Go. -/
import Derived.Test.YtebcdpgalbibkaaReadyR
namespace Go.Proofs.Ytebcdpgalbibkaa
open Go.RowKit
set_option linter.unusedVariables false
set_option maxRecDepth 100000
set_option maxHeartbeats 1000000
theorem erase_all : ∀ {l : List (Nat × Nat)} {i : Nat} {x : Nat × Nat}, (l.map Prod.fst).Nodup → l[i]? = some x → (l.filter fun y => decide (y.1 ≠ x.1)) = l.take i ++ l.drop (i + 1)
  | [], i, x, _, h => by simp at h
  | a :: t, 0, x, hn, h => by
    obtain rfl : a = x := by simpa using h
    rw [List.map_cons, List.nodup_cons] at hn
    rw [List.filter_cons, if_neg (by simp)]
    show _ = t
    refine List.filter_eq_self.2 fun y hy => ?_
    rw [decide_eq_true]
    exact fun e => hn.1 (e ▸ List.mem_map_of_mem hy)
  | a :: t, i + 1, x, hn, h => by
    have h : t[i]? = some x := by simpa using h
    rw [List.map_cons, List.nodup_cons] at hn
    have hx : a.1 ≠ x.1 := fun e => hn.1 (e ▸ List.mem_map_of_mem (List.mem_of_getElem? h))
    rw [List.filter_cons, if_pos (by simp [hx]), erase_all hn.2 h]
    rfl
theorem find_go {m : Nat} {s : QS} (h : s.ok m) {id z : Int} (hf : FindP s.all id z) : (z = -1 ∧ ¬ hasQ s id ∧ (∀ x, x ∈ s.all → (x.1 : Int) ≠ id)) ∨ ∃ (i j p : Nat), z = (i : Int) ∧ id = (j : Int) ∧ j < 64 ∧ s.pr j = some p ∧ s.all[i]? = some (j, p) := by
  rcases hf with ⟨rfl, hn⟩ | ⟨i, x, rfl, hx, rfl⟩
  · refine Or.inl ⟨rfl, fun hh => ?_, hn⟩
    obtain ⟨p, hp⟩ := Option.isSome_iff_exists.1 hh.2
    have := hn (id.toNat, p) (h.all_mem.2 hp)
    have h2 := hh.1
    exact this (by show ((id.toNat : Nat) : Int) = id; omega)
  · have hp := h.all_mem.1 (List.mem_of_getElem? hx)
    exact Or.inr ⟨i, x.1, x.2, rfl, rfl, (h.bd _ _ hp).1, hp, hx⟩
theorem Try.infoMem : (Try.prog.info? 56).map (fun i => (i.zero, i.size, i.bytes)) = some (some (.agg #[.int .i64 0, .int .i64 0]), 2, 16) := by kernel_rfl
section
variable {w0 w w' : World} {S0 S : Nat → Prop} {L : List Res} {r : Nat} {s s' : QS}
theorem RGo_c {m : Nat} (h : RQR r s.all w S) (hs : s.ok m) (id f : Int) (hP : GoP s id f s') :
    Calls Try.prog 13 #[.pointer (some ⟨r, 0, none⟩), .int .i64 id] w fun e w' => e = .returned (.int .i64 f) ∧ ∃ S', RQR r s'.all w' S' ∧ Did S S' w w' := by
  obtain ⟨iK, hiK, hzK, hsK, hbK⟩ := info3 Try.infoMem
  have FI := Lib.hid (find_c h (Nat.le_trans hs.len hs.mx) id)
  have hlen : s.all.length ≤ 1000 := Nat.le_trans hs.len hs.mx
  have HS := Lib.hid hs
  have HP := Lib.hid hP
  obtain ⟨A, c, hr⟩ := h
  have s0 := St.start hr
  have S0' := Lib.hid s0
  clear hr hs hP s0
  go_enter Try.func13, Try.ntmps13
  go_wp2_with fail
  refine FI.out.mono ?_
  rintro e w1 ⟨⟨z, rfl, hz⟩, rfl⟩
  rcases find_go HS.out hz with ⟨rfl, hno, -⟩ | ⟨i, j, p, rfl, rfl, hj, hp, hx⟩
  · obtain ⟨rfl, rfl⟩ : f = 6 ∧ s' = s := by
      rcases HP.out with ⟨_, h1, h2⟩ | ⟨h, _⟩
      · exact ⟨h1, h2⟩
      · exact absurd h hno
    clear hz hno FI
    go_wp2_with fail
    go_ret
    exact ⟨rfl, S0'.out.fin fun S' h => ⟨A, c, h⟩⟩
  · obtain ⟨rfl, rfl⟩ : f = 0 ∧ s' = s.go j := by
      rcases HP.out with ⟨h, _⟩ | ⟨_, h1, h2⟩
      · exact absurd ⟨⟨by omega, by omega⟩, by rw [Int.toNat_natCast, hp]; rfl⟩ h
      · exact ⟨h1, by rw [h2, Int.toNat_natCast]⟩
    have heq : (s.go j).all = s.all.take i ++ s.all.drop (i + 1) := by
      have hnd := HS.out.ids_nd
      unfold QS.ids at hnd
      rw [go_all]
      generalize s.all = l at *
      exact erase_all (x := (j, p)) hnd hx
    have hin := (List.getElem?_eq_some_iff.1 hx).1
    have HEQ := Lib.hid heq
    have hlt : (s.go j).all.length = i + (s.all.length - (i + 1)) := by
      rw [heq]
      generalize s.all = l at *
      rw [List.length_append, List.length_take, List.length_drop]; omega
    have HLT := Lib.hid hlt
    generalize hG : (s.go j).all = l' at *
    have HG := Lib.hid hG
    clear hG
    generalize s.all = l at *
    obtain ⟨n, hn⟩ : ∃ n, l.length = n := ⟨_, rfl⟩
    have S1 := Lib.hid (show St w1 S w1 [BlkR r 29 #[.slice A n c], LisR 56 2 (.slice A n c) n (mvs l)] by rw [← hn]; exact S0'.out)
    rw [hn] at hin hlen
    have HN := Lib.hid hn
    have q0 := (S1.out.blk 0 rfl).one
    have ls := S1.out.lis 1 rfl
    have hcap : n ≤ c ∧ c ≤ maxLen := by
      obtain ⟨A', c', hv, h1, h2⟩ := ls.shape
      injection hv with _ _ hv
      subst hv; exact ⟨h1, h2⟩
    unfold maxLen at hcap
    obtain ⟨b, off, rfl, -⟩ := ls.reads.2.resolve_left (by omega)
    have zE := S1.out.drew.lis_new 56 2 0 #[] rfl (by unfold maxLen; omega)
    have q1 := ((S1.out.lis_new 56 2 0 #[] rfl (by unfold maxLen; omega)).blk 0 rfl).one
    have RE := Lib.hid (((zE.lis 1 rfl).upto (show i ≤ n by omega)).reads)
    have HT := Lib.hid (mvs_take l i)
    have ZE := Lib.hid zE
    have hw1 : IntKind.i64.wrap ((i : Int) + 1) = (i : Int) + 1 := IntWalk.i64_in _ ⟨by omega, by omega⟩
    have v1 : i ≤ c := by omega
    have v2 : (i : Int) ≤ (c : Int) := by omega
    have v3 : i + 1 ≤ n := by omega
    have v4 : (i : Int) + 1 ≤ (n : Int) := by omega
    have v5 : (0 : Int) ≤ (i : Int) + 1 := by omega
    have z1 : decide ((i : Int) < 0) = false := decide_eq_false (by omega)
    clear hz hx heq hlt hn ls zE hp FI S0'
    rw [HT.out] at RE
    have hm : mvs (l.take i) ++ mvs (l.drop (i + 1)) = mvs l' := by rw [HEQ.out, mvs_app]
    by_cases hca : c = i + 1
    · subst hca
      obtain rfl : n = i + 1 := by omega
      have t9 : (i : Int) ≤ (i : Int) + 1 := by omega
      rw [List.drop_eq_nil_of_le (by have := HN.out; omega)] at hm
      have HM := Lib.hid hm
      have HL := Lib.hid (show i = l'.length by have := HLT.out; have := HN.out; omega)
      clear hm
      go_wp2_with fail
      go_region_law (first
        | (refine step_lis (by rfl) _ _ _ (by rfl) 56 iK (.agg #[.int .i64 0, .int .i64 0]) 2 16 Try.underlying27 hiK hzK hsK hbK (by rfl) (by omega) (.slice (some ⟨w1.heap.size, 0, none⟩) 0 0) 0 [] (by rfl) (ZE.out.lis 2 rfl) (some ⟨b, off, none⟩) i (i + 1) (mvs (l.take i)) (by rfl) RE.out (mvs_one _) (by unfold maxLen; omega) (by omega) ?_; intro B6 c6 w6 hl hg hat; have t6 := ZE.out.lis_put 2 rfl hl hg hat; simp only [Nat.zero_add, List.nil_append] at t6 ⊢; have q6 := (t6.blk 0 rfl).one;  have PE := Lib.hid t6; clear hl hg hat t6)
        | (refine step_lis (by rfl) _ _ _ (by rfl) 56 iK (.agg #[.int .i64 0, .int .i64 0]) 2 16 Try.underlying27 hiK hzK hsK hbK (by rfl) (by omega) (.slice B6 i c6) i (mvs (l.take i)) (by rfl) (PE.out.lis 2 rfl) (some ⟨b, off, none⟩) 0 0 (mvs []) (by rfl) ⟨rfl, Or.inl rfl⟩ (mvs_one _) (by unfold maxLen; omega) (by omega) ?_; intro B7 c7 w7 hl hg hat; have t7 := PE.out.lis_put 2 rfl hl hg hat; rw [HM.out] at t7; have q7 := (t7.blk 0 rfl).one; have f7 := (t7.blk 0 rfl).frozen 0; have T8 := Lib.hid ((t7.drop 1 (by simp)).set_ 0 rfl 0 (.slice B7 i c7)); clear hl hg hat t7))
      all_goals
        go_wp2_with fail
        go_ret
        refine ⟨rfl, ?_⟩
        have T9 := T8.out
        rw [HL.out] at T9 ⊢
        rw [HG.out]
        exact T9.fin fun S' h => ⟨B7, c7, h⟩
    · have HM := Lib.hid hm
      have HL := Lib.hid (show i + (n - (i + 1)) = l'.length by have := HLT.out; have := HN.out; omega)
      clear hm
      go_wp2_with fail
      go_region_law (first
        | (refine step_lis (by rfl) _ _ _ (by rfl) 56 iK (.agg #[.int .i64 0, .int .i64 0]) 2 16 Try.underlying27 hiK hzK hsK hbK (by rfl) (by omega) (.slice (some ⟨w1.heap.size, 0, none⟩) 0 0) 0 [] (by rfl) (ZE.out.lis 2 rfl) (some ⟨b, off, none⟩) i c (mvs (l.take i)) (by rfl) RE.out (mvs_one _) (by unfold maxLen; omega) (by omega) ?_; intro B6 c6 w6 hl hg hat; have t6 := ZE.out.lis_put 2 rfl hl hg hat; simp only [Nat.zero_add, List.nil_append] at t6 ⊢; have q6 := (t6.blk 0 rfl).one; have R6 := Lib.hid (((t6.lis 1 rfl).cut (show i + 1 ≤ n by omega)).reads); rw [if_neg hca, mvs_drop] at R6; simp only [Option.map_some, Go.WideShapes.add_plain] at R6; have PE := Lib.hid t6; clear hl hg hat t6)
        | (refine step_lis (by rfl) _ _ _ (by rfl) 56 iK (.agg #[.int .i64 0, .int .i64 0]) 2 16 Try.underlying27 hiK hzK hsK hbK (by rfl) (by omega) (.slice B6 i c6) i (mvs (l.take i)) (by rfl) (PE.out.lis 2 rfl) (some ⟨b, off + (i + 1) * 2, none⟩) (n - (i + 1)) (c - (i + 1)) (mvs (l.drop (i + 1))) (by rfl) R6.out (mvs_one _) (by unfold maxLen; omega) (by omega) ?_; intro B7 c7 w7 hl hg hat; have t7 := PE.out.lis_put 2 rfl hl hg hat; rw [HM.out] at t7; have q7 := (t7.blk 0 rfl).one; have f7 := (t7.blk 0 rfl).frozen 0; have T8 := Lib.hid ((t7.drop 1 (by simp)).set_ 0 rfl 0 (.slice B7 (i + (n - (i + 1))) c7)); clear hl hg hat t7))
      all_goals
        go_wp2_with fail
        go_ret
        refine ⟨rfl, ?_⟩
        have T9 := T8.out
        rw [HL.out] at T9 ⊢
        rw [HG.out]
        exact T9.fin fun S' h => ⟨B7, c7, h⟩
end
end Go.Proofs.Ytebcdpgalbibkaa
